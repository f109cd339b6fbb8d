import Derived.Test.YtdnlfacfleemeaaK10
namespace Go.Proofs.Ytdnlfacfleemeaa
open Go.RowKit Go.Lib

set_option maxRecDepth 100000 in
theorem load24 {w : World} {r : Nat} {a b c : Value} (hb : w.heap[r]? = some (.cells #[a, b, c] 27 (0, 0))) : (loadVar 27 ⟨r, 0, none⟩).run Try.prog w = .ok (.agg #[a, b, c]) w := by
  obtain ⟨c0, c1, c2, _⟩ := vfacts hb
  simp [go_sem, c0, c1, c2]

theorem ret24 {fn : Func} {p : Tmp} (h : fn.results = #[.cell p 27]) {tmps : Array Value} {r : Nat} {w : World} {a b c : Value} (ht : tmps.getD p undef = .pointer (some ⟨r, 0, none⟩)) (hb : w.heap[r]? = some (.cells #[a, b, c] 27 (0, 0))) :
    (results fn tmps).run Try.prog w = .ok (.agg #[a, b, c]) w := by
  have ht2 := ht
  simp only [Array.getD_eq_getD_getElem?] at ht2
  simp only [results, h]
  simp [ht2, load24 hb, asAddr]

/-- The two blocks of take while the Reader reads on. -/
structure Tk0 (w W : World) (p : Nat) (g : Option Nat) (bs : List Int) (a : Nat) (e : Int) (q4 : Nat) (nm : ByteArray) (ar : Int) : Prop where
  r0 : W.heap[w.heap.size]? = some (po emp 0 (.slice none 0 0))
  r4 : W.heap[q4]? = some (po nm ar (.slice none 0 0))
  rd : Rd W p g bs a e
  hb : Below w.heap.size w W
  lt : w.heap.size < p ∧ w.heap.size < q4

theorem Tk0.below {w W W' : World} {p : Nat} {g : Option Nat} {bs : List Int} {a : Nat} {e : Int} {q4 : Nat} {nm : ByteArray} {ar : Int} (h : Tk0 w W p g bs a e q4 nm ar) (hb : Below W.heap.size W W') : Tk0 w W' p g bs a e q4 nm ar :=
  ⟨blk_of hb h.r0 (lt_of h.r0), blk_of hb h.r4 (lt_of h.r4), h.rd.below hb, below_on h.hb hb, h.lt⟩

theorem Tk0.read {w W W' : World} {p : Nat} {g : Option Nat} {bs : List Int} {a a2 : Nat} {e e2 : Int} {q4 : Nat} {nm : ByteArray} {ar : Int} (h : Tk0 w W p g bs a e q4 nm ar) (hs : RdStep p g W W' bs a2 e2) : Tk0 w W' p g bs a2 e2 q4 nm ar := by
  obtain ⟨h1, hk⟩ := hs
  have hl := h.lt
  refine ⟨(hk.block _ (lt_of h.r0) (by omega)).trans h.r0, (hk.block _ (lt_of h.r4) (h.rd.other h.r4 (by decide))).trans h.r4, h1, h.hb.trans (hk.below h.hb.size (fun k h1 h2 => by omega)), h.lt⟩

theorem Tk0.set {w W : World} {p : Nat} {g : Option Nat} {bs : List Int} {a : Nat} {e : Int} {q4 : Nat} {nm nm2 : ByteArray} {ar ar2 : Int} (h : Tk0 w W p g bs a e q4 nm ar) (hg : g ≠ some q4) (o : Nat) (v : Value) (hv : (W.setCell ⟨q4, o, none⟩ v).heap[q4]? = some (po nm2 ar2 (.slice none 0 0))) : Tk0 w (W.setCell ⟨q4, o, none⟩ v) p g bs a e q4 nm2 ar2 := by
  have hk : Kept (fun k => k = q4) W (W.setCell ⟨q4, o, none⟩ v) := Kept.setCell (p := ⟨q4, o, none⟩) (Kept.refl (fun k => k = q4) W) (fun _ => rfl) v
  have hl := h.lt
  exact ⟨(hk.block _ (lt_of h.r0) (by omega)).trans h.r0, hv, h.rd.kept hk (fun e => h.rd.other h.r4 (by decide) e.symm) (fun k hk e => hg (by rw [hk, e])), h.hb.trans (hk.below h.hb.size (fun k h1 h2 => by omega)), h.lt⟩

theorem po_set0 {W : World} {q : Nat} {nm nm2 : ByteArray} {ar : Int} {S : Value} (h : W.heap[q]? = some (po nm ar S)) : (W.setCell ⟨q, 0, none⟩ (.string nm2)).heap[q]? = some (po nm2 ar S) := by
  simp [World.setCell, Array.getElem?_modify, h]
theorem po_set1 {W : World} {q : Nat} {nm : ByteArray} {ar ar2 : Int} {S : Value} (h : W.heap[q]? = some (po nm ar S)) : (W.setCell ⟨q, 1, none⟩ (.int .i64 ar2)).heap[q]? = some (po nm ar2 S) := by
  simp [World.setCell, Array.getElem?_modify, h]
theorem po_set2 {W : World} {q : Nat} {nm : ByteArray} {ar : Int} {S S2 : Value} (h : W.heap[q]? = some (po nm ar S)) : (W.setCell ⟨q, 2, none⟩ S2).heap[q]? = some (po nm ar S2) := by
  simp [World.setCell, Array.getElem?_modify, h]

theorem tk0_start {w w1 : World} {p : Nat} {bs : List Int} (hp : (w.alloc (po emp 0 (.slice none 0 0))).heap.size < p) (hr : Rd w1 p (some (w.alloc (po emp 0 (.slice none 0 0))).heap.size) bs 0 0)
    (hb : Below (w.alloc (po emp 0 (.slice none 0 0))).heap.size (w.alloc (po emp 0 (.slice none 0 0))) w1) : Tk0 w (w1.alloc (po emp 0 (.slice none 0 0))) p (some (w.heap.size + 1)) bs 0 0 w1.heap.size emp 0 := by
  have h0 := blk_of hb (heap_alloc_new w (po emp 0 (.slice none 0 0))) (by simp)
  have hb' : Below w.heap.size w w1 := (below1 w _).trans (hb.mono (below1 w (po emp 0 (.slice none 0 0))).size)
  have hz : (w.alloc (po emp 0 (.slice none 0 0))).heap.size = w.heap.size + 1 := by simp
  rw [hz] at hp hr
  refine ⟨(Below.heap_alloc _ _ _ (lt_of h0)).trans h0, heap_alloc_new w1 _, hr.below (below1 _ _), hb'.alloc hb'.size _, by omega, lt_of h0⟩

/-- Behind the making of the list. -/
structure Tk1 (w W : World) (p : Nat) (g : Option Nat) (bs : List Int) (a : Nat) (q4 cb N : Nat) (nm : ByteArray) (ar : Int) : Prop where
  r0 : W.heap[w.heap.size]? = some (po emp 0 (.slice none 0 0))
  r4 : W.heap[q4]? = some (po nm ar (.slice (some ⟨cb, 0, none⟩) N N))
  rd : Rd W p g bs a 0
  bk : ∃ cs, W.heap[cb]? = some (.cells cs 52 (0, 0))
  c2 : ∀ (j : Nat), j < N → InsAt W cb (j * 8) (zIns 0)
  hb : Below w.heap.size w W
  lt : w.heap.size < p ∧ w.heap.size < cb ∧ w.heap.size < q4

theorem Tk1.tks {w W W' : World} {p : Nat} {g : Option Nat} {bs : List Int} {a : Nat} {q4 cb N : Nat} {nm : ByteArray} {ar : Int} {G : Nat} (h : Tk1 w W p g bs a q4 cb N nm ar) (ht : Tbl W' G) (hb : Below W.heap.size W W') : Tks w W' p g bs a q4 cb N [] nm ar G := by
  obtain ⟨cs, hc⟩ := h.bk
  have hl := hb.block _ (lt_of hc)
  exact ⟨blk_of hb h.r0 (lt_of h.r0), blk_of hb h.r4 (lt_of h.r4), h.rd.below hb, ⟨cs, hl.trans hc⟩, ht, fun j x hx => by simp at hx, fun j _ h2 => (h.c2 j h2).same hl, below_on h.hb hb, h.lt⟩

theorem Tk0.made {w W : World} {p : Nat} {g : Option Nat} {bs : List Int} {a : Nat} {q4 : Nat} {nm : ByteArray} {ar : Int} (h : Tk0 w W p g bs a 0 q4 nm ar) (hg : g ≠ some q4) (N : Nat) :
    Tk1 w ((W.setCell ⟨q4, 2, none⟩ (.slice (some ⟨W.heap.size, 0, none⟩) N N)).alloc (.cells (madeCells zCells (N * 8)) 52)) p g bs a q4 W.heap.size N nm ar := by
  have hk : Kept (fun k => k = q4) W (W.setCell ⟨q4, 2, none⟩ (.slice (some ⟨W.heap.size, 0, none⟩) N N)) := Kept.setCell (p := ⟨q4, 2, none⟩) (Kept.refl (fun k => k = q4) W) (fun _ => rfl) _
  have hl := h.lt
  have hz : (W.setCell ⟨q4, 2, none⟩ (.slice (some ⟨W.heap.size, 0, none⟩) N N)).heap.size = W.heap.size := by simp [World.setCell]
  have h4 := po_set2 (S2 := .slice (some ⟨W.heap.size, 0, none⟩) N N) h.r4
  have h0 := (hk.block _ (lt_of h.r0) (by omega)).trans h.r0
  have hb2 := below1 (W.setCell ⟨q4, 2, none⟩ (.slice (some ⟨W.heap.size, 0, none⟩) N N)) (.cells (madeCells zCells (N * 8)) 52)
  have hn := heap_alloc_new (W.setCell ⟨q4, 2, none⟩ (.slice (some ⟨W.heap.size, 0, none⟩) N N)) (.cells (madeCells zCells (N * 8)) 52)
  have hc := fun j hj => made_ins (W.setCell ⟨q4, 2, none⟩ (.slice (some ⟨W.heap.size, 0, none⟩) N N)) N j hj
  rw [hz] at hn hc
  refine ⟨blk_of hb2 h0 (lt_of h0), blk_of hb2 h4 (lt_of h4), (h.rd.kept hk (fun e => h.rd.other h.r4 (by decide) e.symm) (fun k hk e => hg (by rw [hk, e]))).below hb2, ⟨_, hn⟩, hc, (h.hb.trans (hk.below h.hb.size (fun k h1 h2 => by omega))).trans (hb2.mono ?_), hl.1, lt_of h.r0, hl.2⟩
  rw [hz]
  exact h.hb.size

theorem Tks.fin {w W : World} {p : Nat} {g : Option Nat} {bs : List Int} {a : Nat} {q4 cb N : Nat} {ys : List Ins} {nm : ByteArray} {ar : Int} {G : Nat} (h : Tks w W p g bs a q4 cb N ys nm ar G) (nq : Nat) (x y z : Value) :
    (((((W.drewN nq).setCell ⟨w.heap.size, 0, none⟩ x).setCell ⟨w.heap.size, 1, none⟩ y).setCell ⟨w.heap.size, 2, none⟩ z)).heap[w.heap.size]? = some (.cells #[x, y, z] 27 (0, 0)) ∧
    Below w.heap.size w ((((W.drewN nq).setCell ⟨w.heap.size, 0, none⟩ x).setCell ⟨w.heap.size, 1, none⟩ y).setCell ⟨w.heap.size, 2, none⟩ z) ∧ w.heap.size ≤ cb ∧
    (∃ cs, ((((W.drewN nq).setCell ⟨w.heap.size, 0, none⟩ x).setCell ⟨w.heap.size, 1, none⟩ y).setCell ⟨w.heap.size, 2, none⟩ z).heap[cb]? = some (.cells cs 52 (0, 0))) ∧
    ∀ (j : Nat) (u : Ins), ys[j]? = some u → InsAt ((((W.drewN nq).setCell ⟨w.heap.size, 0, none⟩ x).setCell ⟨w.heap.size, 1, none⟩ y).setCell ⟨w.heap.size, 2, none⟩ z) cb (j * 8) u := by
  have h' := h.below (DN.below ⟨nq, rfl⟩)
  have hk : Kept (fun k => k = w.heap.size) (W.drewN nq) ((((W.drewN nq).setCell ⟨w.heap.size, 0, none⟩ x).setCell ⟨w.heap.size, 1, none⟩ y).setCell ⟨w.heap.size, 2, none⟩ z) :=
    ((Kept.refl (fun k => k = w.heap.size) (W.drewN nq)).setCell (p := ⟨w.heap.size, 0, none⟩) (fun _ => rfl) x).setCell (p := ⟨w.heap.size, 1, none⟩) (fun _ => rfl) y |>.setCell (p := ⟨w.heap.size, 2, none⟩) (fun _ => rfl) z
  obtain ⟨cs, hc⟩ := h'.bk
  have hl := h.lt
  have hcb := hk.block cb (lt_of hc) (by omega)
  exact ⟨set3 h'.r0 x y z, Below.set3 h'.hb (Nat.le_refl _) x y z, by omega, ⟨cs, hcb.trans hc⟩, fun j u hu => (h'.c1 j u hu).same hcb⟩

set_option maxRecDepth 100000 in
set_option maxHeartbeats 8000000 in
theorem ptake_any (v : Value) (bs : List Int) (w : World) (h : Sl w v bs) (ho : Oct bs) (hl : bs.length ≤ 1000000000) :
    Calls Try.prog 80 #[v] w (TKPost w (tkProc bs)) := by
  have HRD := hid (read_any v bs (w.alloc (po emp 0 (.slice none 0 0))) (h.below (below1 w _)) ho hl)
  obtain ⟨ao, cap, rfl, hcap, -⟩ := h
  unfold tkProc
  obtain ⟨⟨⟨u1, t1⟩, a1, e1⟩, ht1⟩ : ∃ t, takeZ 3 32 bs 0 0 = t := ⟨_, rfl⟩
  rw [ht1]
  dsimp only
  obtain ⟨⟨⟨u2, t2⟩, a2, e2⟩, ht2⟩ : ∃ t, takeZ 1 0 bs a1 e1 = t := ⟨_, rfl⟩
  have bd2 := takeZ_bd 1 0 bs a1 e1 ho
  rw [ht2] at bd2 ⊢
  dsimp only at bd2 ⊢
  obtain ⟨⟨⟨u3, t3⟩, a3, e3⟩, ht3⟩ : ∃ t, takeZ 1 0 bs a2 e2 = t := ⟨_, rfl⟩
  have bd3 := takeZ_bd 1 0 bs a2 e2 ho
  rw [ht3] at bd3 ⊢
  dsimp only at bd3 ⊢
  have HT1 := hid ht1
  have HT2 := hid ht2
  have HT3 := hid ht3
  have hu30 : 0 ≤ u3 := bd3.1
  have hu31 : u3 < 9223372036854775808 := bd3.2.2.1 (by decide) (by decide)
  clear ht1 ht2 ht3 bd2 bd3
  obtain ⟨Z, hZ⟩ : ∃ Z, Z = tkEnd bs t1 u2 (tkCode bs (bs.length : Int) u3.toNat a3) := ⟨_, rfl⟩
  rw [← hZ]
  have HZ := hid hZ
  clear hZ
  by_cases he3 : e3 = 0
  · subst he3
    rw [if_pos rfl]
    by_cases h64 : u3 ≤ 64
    · rw [if_pos h64]
      obtain ⟨n, rfl⟩ : ∃ n : Nat, u3 = n := ⟨u3.toNat, by omega⟩
      have hn64 : n ≤ 64 := by omega
      have HN64 := hid hn64
      have h64' : decide ((64 : Int) < (n : Int)) = false := by simp; omega
      clear hu30 hu31 hn64 h64
      go_enter Try.func80, Try.ntmps80
      go_upto_region 9 with (first
        | (go_at_call 33
           refine HRD.out.mono ?_
           rintro e w1 ⟨p, rfl, hp, hr, hb⟩
           have H1 := hid (tk0_start hp hr hb)
           have hgq : (some (w.heap.size + 1) : Option Nat) ≠ some w1.heap.size := by
             have := H1.out.lt
             have h2 := hb.size
             intro e
             have e := Option.some.inj e
             have := hr.plt
             simp at h2 hp
             omega
           have HP := hid (show w.heap.size + 1 < p by simpa using hp)
           clear hp hr hb)
        | (go_at_call 71
           refine (rtext_any p _ bs 0 0 32 _ H1.out.rd (by decide) (by decide)).mono ?_
           rintro e w2 ⟨h2, rfl⟩
           rw [HT1.out] at h2 ⊢
           dsimp only at h2 ⊢
           have H2 := hid (H1.out.read h2)
           obtain ⟨q0, q1, q2, qz⟩ := vfacts H2.out.r4
           clear h2)
        | (go_at_call 46
           first
           | ((with_reducible show Calls _ _ _ (World.setCell w2 _ _) _)
              have H3 := hid (H2.out.set hgq 0 (.string (mkStr t1)) (po_set0 H2.out.r4))
              refine (rnum_any p _ bs a1 e1 _ H3.out.rd).mono ?_
              rintro e w3 ⟨h3, rfl⟩
              rw [HT2.out] at h3 ⊢
              dsimp only at h3 ⊢
              have H4 := hid (H3.out.read h3)
              obtain ⟨q0, q1, q2, qz⟩ := vfacts H4.out.r4
              clear h3 H3)
           | ((with_reducible show Calls _ _ _ (World.setCell w3 _ _) _)
              have H5 := hid (H4.out.set hgq 1 (.int .i64 u2) (po_set1 H4.out.r4))
              refine (rnum_any p _ bs a2 e2 _ H5.out.rd).mono ?_
              rintro e w4 ⟨h4, rfl⟩
              rw [HT3.out] at h4 ⊢
              dsimp only at h4 ⊢
              have H6 := hid (H5.out.read h4)
              obtain ⟨q0, q1, q2, qz⟩ := vfacts H6.out.r4
              clear h4 H5))
        | (go_at_call 85
           refine (taken_ok p _ bs a3 _ H6.out.rd).mono ?_
           rintro e w5 ⟨rfl, h5⟩
           have H7 := hid (H6.out.below h5.below)
           obtain ⟨q0, q1, q2, qz⟩ := vfacts H7.out.r4
           clear h5))
      clear H1 H2 H4 H6
      have H8 := hid (And.intro H7.out (And.intro (make28 n HN64.out w5) (made_ins w5 n)))
      have hmk := H8.out.2.1
      have k4 := lt_of H7.out.r4
      go_upto_region 10 with fail
      refine cutG (fun W => Tk1 w W p (some (w.heap.size + 1)) bs a3 w1.heap.size w5.heap.size n (mkStr t1) u2) (H7.out.made hgq n) ?_
      intro W0 H9
      have H9 := hid H9
      have HGC := hid (show (some (w.heap.size + 1) : Option Nat) ≠ some w5.heap.size by
        have h1 := H7.out.rd.plt
        have h2 := HP.out
        intro e
        have e := Option.some.inj e
        omega)
      obtain ⟨cb, hcb⟩ : ∃ cb, cb = w5.heap.size := ⟨_, rfl⟩
      obtain ⟨q4, hq4⟩ : ∃ q4, q4 = w1.heap.size := ⟨_, rfl⟩
      clear H8 H7 hmk q0 q1 q2 qz
      rw [← hcb] at H9 HGC ⊢
      rw [← hq4] at H9 ⊢
      clear hcb hq4 hgq k4
      go_wp2_with (first
        | (go_at_call 41
           refine (operations_any _).mono ?_
           rintro e w6 ⟨G, rfl, ht, hG, hb⟩
           have H10 := hid (H9.out.tks ht hb)
           obtain ⟨q0, q1, q2, -⟩ := vfacts H10.out.r4
           clear hb))
      go_loopw [32] (fun ix wr => ∃ (m : Nat) (ys : List Ins) (a : Nat), m ≤ n ∧ ix = .int .i64 m ∧ ys.length = m ∧ Hid (Tks w wr p (some (w.heap.size + 1)) bs a q4 cb n ys (mkStr t1) u2 G) ∧ Hid (pre ys (tkCode bs (bs.length : Int) (n - m) a) = tkCode bs (bs.length : Int) n a3)) (fun ix _ => n - (intOf ix).toNat)
      case atStart =>
        refine ⟨0, [], a3, Nat.zero_le _, rfl, rfl, H10, hid ?_⟩
        rw [Nat.sub_zero]
        cases tkCode bs (bs.length : Int) n a3 with
        | error E => rfl
        | ok r => rfl
      case round =>
        clear H10 H9 q0 q1 q2
        obtain ⟨m, ys, a, hm, rfl, hys, hT, hK⟩ := hrel
        have hn64 := HN64.out
        obtain ⟨q0, q1, q2, qz⟩ := vfacts hT.out.r4
        by_cases hlt : m < n
        · have hlt' : (m : Int) < (n : Int) := by omega
          obtain ⟨cs, hcs⟩ := hT.out.bk
          have HTI := hid (takeInstr_any p _ bs a (bs.length : Int) cb (m * 8) G cs wr hT.out.rd hcs (hT.out.c2 m (by omega) hlt) hT.out.tb (by
            intro k hk
            have := Option.some.inj hk
            have h1 := HP.out
            have h2 := hT.out.rd.plt
            omega) HGC.out (by omega) (by omega))
          unfold TIPost at HTI
          obtain ⟨R, hR⟩ : ∃ R, R = tkIns bs (bs.length : Int) a := ⟨_, rfl⟩
          rw [← hR] at HTI
          have HRR := hid hR
          have hsub : n - m = (n - (m + 1)) + 1 := by omega
          rw [hsub] at hK
          clear hR hcs hsub
          cases R with
          | error E =>
            dsimp only at HTI
            go_wp2_with fail
            refine HTI.out.mono ?_
            rintro e w7 ⟨h7, rfl⟩
            have H7 := hid (hT.out.blocks h7).2.2
            clear h7
            go_wp2
            refine ⟨rfl, H7.out, ?_⟩
            have hk := hK.out
            rw [pre_no _ _ _ _ _ E HRR.out.symm] at hk
            rw [HZ.out, Int.toNat_natCast, ← hk]
            rfl
          | ok r =>
            obtain ⟨x, a2'⟩ := r
            dsimp only at HTI
            go_wp2_with fail
            refine HTI.out.mono ?_
            rintro e w7 ⟨h7, rfl, hi7⟩
            have H7 := hid (hT.out.step (by rw [hys]; exact hi7))
            clear h7 hi7
            go_wp2
            go_roundw
            case rel =>
              refine ⟨m + 1, ys ++ [x], a2', by omega, by go_num, by simp [hys], H7, hid ?_⟩
              rw [← hK.out, pre_ok _ _ _ _ _ x a2' HRR.out.symm]
            case measure => simp [intOf]; omega
        · obtain rfl : m = n := by omega
          have hk := hK.out
          rw [Nat.sub_self] at hk
          have HK2 := hid (show tkCode bs (bs.length : Int) m a3 = .ok (ys, a) by rw [← hk]; simp [tkCode, pre])
          have HE := hid (end_any p _ bs a 0 wr hT.out.rd)
          obtain ⟨E, hE⟩ : ∃ E, E = endZ bs.length a 0 := ⟨_, rfl⟩
          rw [← hE] at HE
          have HEE := hid hE
          obtain ⟨c0, c1, c2, cz⟩ := vfacts hT.out.r0
          have hqn : q4 ≠ w.heap.size := by have := hT.out.lt; omega
          clear hK hk hE
          by_cases hE0 : E = 0
          · subst hE0
            go_wp2_with (first
              | (go_at_call 37; refine HE.out.mono ?_; rintro e w7 ⟨⟨nq, e7⟩, rfl⟩; dsimp only; rw [e7]; clear e7 w7)
              | (go_at_call 81; refine (insist_ok _).mono ?_; rintro e w8 ⟨rfl, e8⟩; rw [e8]; clear e8 w8))
            have HF := hid (hT.out.fin nq (.string (mkStr t1)) (.int .i64 u2) (.slice (some ⟨cb, 0, none⟩) m m))
            refine bodyPost_ret (ret24 Try.results80 rfl HF.out.1) rfl ?_
            refine ⟨HF.out.2.1, ?_⟩
            rw [HZ.out, Int.toNat_natCast, HK2.out]
            dsimp only [tkEnd]
            rw [← HEE.out, if_pos rfl]
            exact ⟨cb, by rw [hys], HF.out.2.2.1, HF.out.2.2.2.1, HF.out.2.2.2.2⟩
          · go_wp2_with (first
              | (go_at_call 37; refine HE.out.mono ?_; rintro e w7 ⟨⟨nq, e7⟩, rfl⟩; dsimp only; rw [e7]; clear e7 w7)
              | (go_at_call 81; refine (insist_no E hE0 _).mono ?_; rintro e w8 ⟨rfl, e8⟩; rw [e8]; clear e8 w8))
            refine ⟨rfl, (hT.out.below (DN.below ⟨nq, rfl⟩)).hb, ?_⟩
            rw [HZ.out, Int.toNat_natCast, HK2.out]
            dsimp only [tkEnd]
            rw [← HEE.out, if_neg hE0]
    · rw [if_neg h64]
      have h64' : decide ((64 : Int) < u3) = true := by simp; omega
      clear hu30 hu31 h64
      go_enter Try.func80, Try.ntmps80
      go_wp2_with (first
        | (go_at_call 33
           refine HRD.out.mono ?_
           rintro e w1 ⟨p, rfl, hp, hr, hb⟩
           have H1 := hid (tk0_start hp hr hb)
           have hgq : (some (w.heap.size + 1) : Option Nat) ≠ some w1.heap.size := by
             have := H1.out.lt
             have h2 := hb.size
             intro e
             have e := Option.some.inj e
             have := hr.plt
             simp at h2 hp
             omega
           have HP := hid (show w.heap.size + 1 < p by simpa using hp)
           clear hp hr hb)
        | (go_at_call 71
           refine (rtext_any p _ bs 0 0 32 _ H1.out.rd (by decide) (by decide)).mono ?_
           rintro e w2 ⟨h2, rfl⟩
           rw [HT1.out] at h2 ⊢
           dsimp only at h2 ⊢
           have H2 := hid (H1.out.read h2)
           obtain ⟨q0, q1, q2, qz⟩ := vfacts H2.out.r4
           clear h2)
        | (go_at_call 46
           first
           | ((with_reducible show Calls _ _ _ (World.setCell w2 _ _) _)
              have H3 := hid (H2.out.set hgq 0 (.string (mkStr t1)) (po_set0 H2.out.r4))
              refine (rnum_any p _ bs a1 e1 _ H3.out.rd).mono ?_
              rintro e w3 ⟨h3, rfl⟩
              rw [HT2.out] at h3 ⊢
              dsimp only at h3 ⊢
              have H4 := hid (H3.out.read h3)
              obtain ⟨q0, q1, q2, qz⟩ := vfacts H4.out.r4
              clear h3 H3)
           | ((with_reducible show Calls _ _ _ (World.setCell w3 _ _) _)
              have H5 := hid (H4.out.set hgq 1 (.int .i64 u2) (po_set1 H4.out.r4))
              refine (rnum_any p _ bs a2 e2 _ H5.out.rd).mono ?_
              rintro e w4 ⟨h4, rfl⟩
              rw [HT3.out] at h4 ⊢
              dsimp only at h4 ⊢
              have H6 := hid (H5.out.read h4)
              obtain ⟨q0, q1, q2, qz⟩ := vfacts H6.out.r4
              clear h4 H5))
        | (go_at_call 85
           refine (taken_ok p _ bs a3 _ H6.out.rd).mono ?_
           rintro e w5 ⟨rfl, h5⟩
           have H7 := hid (H6.out.below h5.below)
           obtain ⟨q0, q1, q2, qz⟩ := vfacts H7.out.r4
           clear h5))
      exact ⟨rfl, H7.out.hb, rfl⟩
  · rw [if_neg he3]
    clear hu30 hu31
    go_enter Try.func80, Try.ntmps80
    go_wp2_with (first
      | (go_at_call 33
         refine HRD.out.mono ?_
         rintro e w1 ⟨p, rfl, hp, hr, hb⟩
         have H1 := hid (tk0_start hp hr hb)
         have hgq : (some (w.heap.size + 1) : Option Nat) ≠ some w1.heap.size := by
           have := H1.out.lt
           have h2 := hb.size
           intro e
           have e := Option.some.inj e
           have := hr.plt
           simp at h2 hp
           omega
         have HP := hid (show w.heap.size + 1 < p by simpa using hp)
         clear hp hr hb)
      | (go_at_call 71
         refine (rtext_any p _ bs 0 0 32 _ H1.out.rd (by decide) (by decide)).mono ?_
         rintro e w2 ⟨h2, rfl⟩
         rw [HT1.out] at h2 ⊢
         dsimp only at h2 ⊢
         have H2 := hid (H1.out.read h2)
         obtain ⟨q0, q1, q2, qz⟩ := vfacts H2.out.r4
         clear h2)
      | (go_at_call 46
         first
         | ((with_reducible show Calls _ _ _ (World.setCell w2 _ _) _)
            have H3 := hid (H2.out.set hgq 0 (.string (mkStr t1)) (po_set0 H2.out.r4))
            refine (rnum_any p _ bs a1 e1 _ H3.out.rd).mono ?_
            rintro e w3 ⟨h3, rfl⟩
            rw [HT2.out] at h3 ⊢
            dsimp only at h3 ⊢
            have H4 := hid (H3.out.read h3)
            obtain ⟨q0, q1, q2, qz⟩ := vfacts H4.out.r4
            clear h3 H3)
         | ((with_reducible show Calls _ _ _ (World.setCell w3 _ _) _)
            have H5 := hid (H4.out.set hgq 1 (.int .i64 u2) (po_set1 H4.out.r4))
            refine (rnum_any p _ bs a2 e2 _ H5.out.rd).mono ?_
            rintro e w4 ⟨h4, rfl⟩
            rw [HT3.out] at h4 ⊢
            dsimp only at h4 ⊢
            have H6 := hid (H5.out.read h4)
            obtain ⟨q0, q1, q2, qz⟩ := vfacts H6.out.r4
            clear h4 H5))
      | (go_at_call 85
         refine (taken_no p _ bs a3 e3 he3 _ H6.out.rd).mono ?_
         rintro e w5 ⟨rfl, h5⟩
         have H7 := hid (H6.out.below h5.below)
         obtain ⟨q0, q1, q2, qz⟩ := vfacts H7.out.r4
         clear h5))
    exact ⟨rfl, H7.out.hb, rfl⟩

end Go.Proofs.Ytdnlfacfleemeaa
