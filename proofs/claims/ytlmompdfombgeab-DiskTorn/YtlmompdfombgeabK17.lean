import Derived.Test.YtlmompdfombgeabK16
namespace Go.Proofs.Ytlmompdfombgeab
open Go.RowKit Go.MapKept Go.Maps Go.Sort Go.Shelf

section
variable {w : World} {d : Nat} {t : Wt} {D : Dq} {n : Nat}

theorem si_files (h : DkT w d t D) (hW : WD n D) : si t.kl = D.files.map Fi.no := by
  unfold si
  have e1 : (t.kl.map Prod.fst).Perm (D.files.map Fi.no) := by
    have := h.pl.map Prod.fst
    rw [show (encL t.pt D.files).map Prod.fst = D.files.map Fi.no by unfold encL; rw [List.map_map]; rfl] at this
    exact this
  rw [sortI_perm e1]
  exact List.mergeSort_of_pairwise (hW.asc.imp (fun h => by simpa using Int.le_of_lt h))

theorem WD.nowf (hW : WD n D) (hn : n ≤ 1000000) (h : DkT w d t D) : ∀ x ∈ t.kl, (Lit.int .i64 x.1).wf = true := by
  intro x hx
  obtain ⟨f, hf, rfl⟩ := List.mem_map.1 (h.pl.mem_iff.1 hx)
  have h1 := hW.rng f hf
  have h2 := hW.made
  have e1 : IntKind.i64.min = -9223372036854775808 := by rfl
  have e2 : IntKind.i64.max = 9223372036854775807 := by rfl
  simp [Lit.wf]
  omega

/-- How many changes are pending, file by file. -/
def pendD (D : Dq) : List Int := D.files.map fun f => (f.cs.length : Int)

set_option maxRecDepth 100000 in
set_option maxHeartbeats 1600000 in
theorem pending_dk (h : DkT w d t D) (hW : WD n D) (hn : n ≤ 100000) :
    Calls Try.prog 12 #[.pointer (some ⟨d, 0, none⟩)] w fun x w' => ∃ v, x = .returned (.tuple #[.int .i64 D.turns.length, v]) ∧ w'.ownsRow w.heap.size 3 1 v D.files.length ((pendD D).map (Value.int .i64)) ∧ Below w.heap.size w w' := by
  obtain ⟨c0, c1, c2, c3, c4, c5, c6, c7, c8, c9, c10, c11⟩ := h.disk.cells
  obtain ⟨av, cv, hvn⟩ := own_shape h.nam
  rw [hvn] at c6
  have h3 := hW.cnt
  have h4 := hW.lim
  have hkl : t.kl.length = D.files.length := by rw [h.pl.length_eq]; simp [encL]
  have hmk := making_gen c2 h.hL (hW.nowf (by omega) h) (by omega)
  rw [si_files h hW, hkl] at hmk
  have HM := hid hmk
  have H := hid h
  obtain ⟨i0, hi, hz0, hz1, hz2⟩ := info_parts Try.info3
  clear h hmk c0 c1 c3 c4 c5 c7 c8 c9 c10 c11
  go_enter Try.func12, Try.ntmps12
  go_wp2_with (
    go_at_call 31
    refine HM.out.mono ?_
    rintro e w1 ⟨v, rfl, ho, hnil, hb1⟩
    obtain ⟨ao, cp, rfl⟩ := own_shape ho
    have H1 := hid (And.intro ho (And.intro hnil hb1))
    clear ho hnil hb1)
  go_loopw [3, 11] (fun l i wr => ∃ (k : Nat) (v : Value), k ≤ D.files.length ∧ i = .int .i64 k ∧ l = v ∧ Hid (wr.ownsRow w1.heap.size 3 1 v k (((pendD D).take k).map (Value.int .i64)) ∧ Below w1.heap.size w1 wr)) (fun _ i _ => D.files.length - (intOf i).toNat)
  case atStart => exact ⟨0, .slice none 0 0, Nat.zero_le _, by go_num, rfl, hid ⟨owns_nil _ _ _ _, Below.refl _ _⟩⟩
  case round =>
    obtain ⟨k, v, hk, rfl, rfl, HR⟩ := hrel
    obtain ⟨ho1, hnil, hb1⟩ := H1.out
    obtain ⟨hrow, hbr⟩ := HR.out
    have hbw : Below w.heap.size w wr := hb1.trans (hbr.mono hb1.size)
    by_cases hlt : k < D.files.length
    · obtain ⟨f, hfe⟩ : ∃ f, f = D.files[k] := ⟨_, rfl⟩
      have hf : f ∈ D.files := by rw [hfe]; exact List.getElem_mem hlt
      obtain ⟨g, cc, e⟩ := own_some ho1 (by omega)
      injection e with e1 e2 e3
      subst e1 e3
      clear e2
      have hc1 := ho1.cells (g := g) rfl k (encZ f.no) (by simp [hlt, hfe])
      rw [add_lit, Nat.zero_add] at hc1
      have hc2 : wr.cell? ⟨g, k, none⟩ = some (.int .i64 f.no) := (hbr.cell (World.block_lt_of_cell? _ _ hc1)).trans hc1
      have hD := H.out.below hbw
      have hlk : (Instr.lookup 62 (.map (some t.L)) (.int .i64 f.no) false).run Try.prog wr = .ok (.pointer (some ⟨t.pt f.no, 0, none⟩)) wr := hD.lookL hW hf 0
      obtain ⟨_, ⟨ap, cap, p1⟩, _⟩ := (hD.fil f hf).cells
      have a2 := (hbw.cell (World.block_lt_of_cell? _ _ c2)).trans c2
      have hcs := (hW.chg f hf).1
      have i2 : (k : Int) < (D.files.length : Int) := by omega
      have hz := hbw.size
      have HX := hid (And.intro hfe (And.intro hrow hbr))
      clear ho1 hnil hb1 hrow hbr hbw hc1 hfe hD
      go_wp2_with (first
        | (at_builtin
           refine wpList_append_lies _ rfl _ _ 24 rfl w1.heap.size 3 i0 _ 1 8 Try.underlying24 hi hz0 hz1 hz2 rfl (by omega) u3 k _ rfl (HR.out.1.alloc _) ⟨wr.heap.size, 0, none⟩ 1 1 [.int .i64 f.cs.length] rfl rfl (World.news_of_block (cs := #[.int .i64 f.cs.length]) (t := 3) (fr := (0, 0)) (heap_alloc_new wr _)) (by simp [Value.oneCell']) (by omega) (by unfold maxLen; omega) (by omega) (by have a := HR.out.2.size; simp; omega) (wr.heap.size + 1) (by simp) ?_
           intro gg cq w3 hown hgrow hat hgl
           have HG := hid (And.intro hown hgrow)
           clear hown hgrow hat hgl))
      go_roundw
      case rel =>
        obtain ⟨hown, hgrow⟩ := HG.out
        obtain ⟨hfe, hrow, hbr⟩ := HX.out
        refine ⟨k + 1, _, by omega, by go_num, rfl, hid ⟨?_, ?_⟩⟩
        · have e1 : (pendD D).take (k + 1) = (pendD D).take k ++ [(f.cs.length : Int)] := by
            rw [List.take_succ_eq_append_getElem (by simp [pendD]; omega)]
            simp [pendD, hfe]
          rw [e1, List.map_append]
          exact hown
        · have K3 : Kept (fun k => u3.ownBlock = some k) wr w3 := Kept.grown ((Kept.refl _ wr).alloc _) hgrow (fun k _ e => e)
          exact hbr.trans (K3.below (by have := hbr.size; omega) (fun q hq e => by
            have := (hrow.lt _ e).1
            omega))
      case measure => simp [intOf]; omega
    · have hke : k = D.files.length := by omega
      subst hke
      have a6 := (hbw.cell (World.block_lt_of_cell? _ _ c6)).trans c6
      have HF := hid (And.intro hrow (And.intro hbr hb1))
      have i2 : ¬ (D.files.length : Int) < (D.files.length : Int) := by omega
      clear hrow hbr ho1 hnil hb1 hbw
      go_wp2
      go_ret2
      obtain ⟨hrow, hbr, hb1⟩ := HF.out
      refine ⟨u3, rfl, ?_, hb1.trans (hbr.mono hb1.size)⟩
      rw [List.take_of_length_le (by simp [pendD])] at hrow
      exact ownsRow_base_a hrow hb1.size

end
end Go.Proofs.Ytlmompdfombgeab

namespace Go.Proofs.Ytlmompdfombgeab
open Go.RowKit Go.MapKept

set_option maxRecDepth 100000 in
set_option maxHeartbeats 1600000 in
theorem add_anyE (d : Nat) (v : Value) (bs : List Int) (w : World) (room limit : Int) (L : Nat) (made : Int) (N F vn : Value) (off : Bool) (st : Int) (k1 : Value) (rd : Int) (k2 : Value) (es : Array MapEntry) (c : Nat)
    (hD : DiskB w d room limit (.map (some L)) made N F vn off st k1 rd k2) (hL : w.heap[L]? = some (.map es c)) (hf : Instr.findNow (.int .i64) (.int .i64 (made + 1)) es.toList 0 = some none) (hm0 : 0 ≤ made) (hm : made ≤ 1000000000) (h : Sl w v bs) (hl : bs.length ≤ 1000000000) (hvd : bs ≠ [] → ∀ k, v.ownBlock = some k → k ≠ d) :
    Calls Try.prog 21 #[.pointer (some ⟨d, 0, none⟩), v] w fun x w' => x = .returned (.int .i64 (made + 1)) ∧ ∃ p vs vd vf, w.heap.size ≤ p ∧ FileAt w' w.heap.size p bs [] bs (List.replicate bs.length false) bs.length vs (.slice none 0 0) vd vf ∧
      DiskB w' d room limit (.map (some L)) (made + 1) N F vn off st k1 rd k2 ∧ w'.heap[L]? = some (.map (es.push { key := .int .i64 (made + 1), val := .pointer (some ⟨p, 0, none⟩), born := c }) (c + 1)) ∧ Kept (fun k => k = d ∨ k = L) w w' := by
  obtain ⟨c0, c1, c2, c3, c4, c5, c6, c7, c8, c9, c10, c11⟩ := hD.cells
  have ff := hD.free
  have hdL : d ≠ L := hp_ne hD hL (by simp)
  have hdl := hp_lt hD
  have hLl := hp_lt hL
  have hsk : Kept (fun k => k = d ∨ k = L) w (w.setCell ⟨d, 3, none⟩ (.int .i64 (made + 1))) := (Kept.refl _ w).setCell (p := ⟨d, 3, none⟩) (fun _ => .inl rfl) _
  have hs1 : Sl (w.setCell ⟨d, 3, none⟩ (.int .i64 (made + 1))) v bs := h.keptE (S := fun k => k = d) ((Kept.refl (fun k => k = d) w).setCell (p := ⟨d, 3, none⟩) (fun _ => rfl) _) (fun hne k hk e => hvd hne k hk e)
  have hD1 : DiskB (w.setCell ⟨d, 3, none⟩ (.int .i64 (made + 1))) d room limit (.map (some L)) (made + 1) N F vn off st k1 rd k2 := set_block hD _
  have hL1 : (w.setCell ⟨d, 3, none⟩ (.int .i64 (made + 1))).heap[L]? = some (.map es c) := hp_set hL (by simpa using hdL.symm) _
  have HS := hid hs1
  have HD1 := hid hD1
  have HL1 := hid hL1
  have HK := hid hsk
  have HF := hid hf
  clear hs1 hD1 hL1 hsk hD hL h c0 c1 c4 c5 c6 c7 c8 c9 c10 c11 hf hvd
  go_enter Try.func21, Try.ntmps21
  go_wp2
  go_region_with (
    go_at_call 42
    refine (newFile_any _ bs _ HS.out.drew hl).mono ?_
    rintro e w1 ⟨p, vs, vd, vf, rfl, hp, hfile, hb⟩
    have hbu := undrew hb
    have hD2 := (show DiskB w1 d room limit (.map (some L)) (made + 1) N F vn off st k1 rd k2 from hp_below HD1.out hbu (hp_lt HD1.out))
    have hL2 := (show w1.heap[L]? = some (.map es c) from hp_below HL1.out hbu (hp_lt HL1.out))
    obtain ⟨-, -, e2, e3, -⟩ := hD2.cells
    have hu := upd_new (w := w1) Try.underlying62 Try.underlying3 hL2 (key_int (made + 1)) (.pointer (some ⟨p, 0, none⟩)) HF.out
    have e4 := (puts_cell w1 (.map (es.push { key := .int .i64 (made + 1), val := .pointer (some ⟨p, 0, none⟩), born := c }) (c + 1)) ⟨d, 3, none⟩ hdL).trans e3
    have HX := hid (And.intro hp (And.intro hfile (And.intro hbu (And.intro hD2 hL2))))
    clear hp hfile hb hbu hD2 hL2)
  all_goals go_wp2
  all_goals
    go_ret
    obtain ⟨hp, hfile, hbu, hD2, hL2⟩ := HX.out
    have hsz : (w.setCell ⟨d, 3, none⟩ (.int .i64 (made + 1))).drew.heap.size = w.heap.size := by simp [World.setCell, World.drew]
    rw [hsz] at hp hfile hbu
    have hkp : Kept (fun k => k = L) w1 (puts w1 L (.map (es.push { key := .int .i64 (made + 1), val := .pointer (some ⟨p, 0, none⟩), born := c }) (c + 1))) := (Kept.refl (fun k => k = L) w1).puts (fun _ => rfl) _
    refine ⟨rfl, p, vs, vd, vf, hp, hfile.low hkp hp (fun k e => by omega), hp_kept hD2 hkp hdL, puts_same hL2, ?_⟩
    have hbw : Kept (fun _ => False) (w.setCell ⟨d, 3, none⟩ (.int .i64 (made + 1))) w1 := Kept.ofBelow (by simpa [World.setCell] using hbu)
    exact (HK.out.trans hbw (fun _ _ h => h.elim)).trans hkp (fun i _ e => .inr e)

set_option maxRecDepth 100000 in
set_option maxHeartbeats 1600000 in
theorem plan_any {w : World} {d : Nat} {room limit : Int} {L : Value} {made : Int} {N F vn : Value} {off : Bool} {st : Int} {k1 : Value} {rd : Int} {k2 : Value} (h : DiskB w d room limit L made N F vn off st k1 rd k2) (sv rv : Value) (gs gr : List (Int × Int)) (h1 : Fl w sv gs) (h2 : Fl w rv gr) (l1 : gs.length ≤ 300) (l2 : gr.length ≤ 300) (n2 : gr ≠ [] → rv.ownBlock ≠ some d) :
    Calls Try.prog 36 #[.pointer (some ⟨d, 0, none⟩), .agg #[sv, rv]] w fun x w' => x = .returned (.tuple #[]) ∧ ∃ m1 m2 es1 cc1 es2 cc2, DiskB w' d room limit L made N F vn off 0 (.map (some m1)) 0 (.map (some m2)) ∧ w'.heap[m1]? = some (.map es1 cc1) ∧ KM es1 gs ∧ w'.heap[m2]? = some (.map es2 cc2) ∧ KM es2 gr ∧ w.heap.size ≤ m1 ∧ w.heap.size ≤ m2 ∧ Kept (fun k => k = d) w w' := by
  obtain ⟨ao, cp, rfl, hc1, hc2⟩ := h1.shape
  obtain ⟨ar, cr, rfl, hc3, hc4⟩ := h2.shape
  have hd := h
  have hmp : ∀ b es c, w.heap[b]? = some (.map es c) → ¬ b = d := fun b es c hb e => by subst e; exact hp_ne hd hb (by simp) rfl
  obtain ⟨c0, c1, c2, c3, c4, c5, c6, c7, c8, c9, c10, c11⟩ := hd.cells
  have ff := hd.free
  have hdl := hp_lt hd
  have HD := hid (And.intro hd (And.intro hmp (And.intro h1 h2)))
  clear hd h c0 c1 c2 c3 c4 c5 c6 c7 hmp h1 h2
  have hb0 : Below w.heap.size w (w.alloc (.cells #[.slice ao gs.length cp, .slice ar gr.length cr] 95)) := (Below.refl _ _).alloc (Nat.le_refl _) _
  have HB0 := hid hb0
  clear hb0
  go_enter Try.func36, Try.ntmps36
  go_wp2_with (
    go_at_call 49
    (with_reducible show Calls _ _ #[.slice ao gs.length cp] _ _)
    refine (newTally_any _ gs _ (HD.out.2.2.1.below HB0.out) (by omega)).mono ?_
    rintro e w1 ⟨m1, es1, cc1, rfl, hm1, hkm1, hg1, hb1⟩
    have hd1 := (show DiskB w1 d room limit L made N F vn off st k1 rd k2 from hp_below (hp_alloc HD.out.1 _) hb1 (by simp; omega))
    obtain ⟨-, -, -, -, -, -, -, -, x8, x9, x10, x11⟩ := hd1.cells
    have xf := hd1.free
    have bx0 := hb1.cell (p := ⟨w.heap.size, 0, none⟩) (by simp)
    have bx1 := hb1.cell (p := ⟨w.heap.size, 1, none⟩) (by simp)
    have hzz : w.heap.size < w1.heap.size := (by have := hb1.size; simp at this; omega)
    have H1 := hid (And.intro hd1 (And.intro hm1 (And.intro hkm1 (And.intro hg1 hb1))))
    clear hd1 hm1 hg1 hb1 hkm1)
  have hd3 : DiskB ((w1.setCell ⟨d, 8, none⟩ (.int .i64 0)).setCell ⟨d, 9, none⟩ (.map (some m1))) d room limit L made N F vn off 0 (.map (some m1)) rd k2 := set_block (i := 9) (set_block (i := 8) H1.out.1 _) _
  obtain ⟨W, hW⟩ : ∃ W, W = (w1.setCell ⟨d, 8, none⟩ (.int .i64 0)).setCell ⟨d, 9, none⟩ (.map (some m1)) := ⟨_, rfl⟩
  rw [← hW] at hd3 ⊢
  have hkW : Kept (fun k => k = d) w1 W := by
    rw [hW]
    exact ((Kept.refl (fun k => k = d) w1).setCell (p := ⟨d, 8, none⟩) (fun _ => rfl) _).setCell (p := ⟨d, 9, none⟩) (fun _ => rfl) _
  have hrW : Fl W (.slice ar gr.length cr) gr := Rf.keptE ((HD.out.2.2.2.below HB0.out).below H1.out.2.2.2.2) hkW (fun h0 k hk e => n2 (fun e => by rw [e] at h0; simp at h0) (by rw [hk, e]))
  have HW := hid (And.intro hd3 (And.intro hkW hrW))
  clear hW hd3 hkW hrW
  go_wp2_with (
    go_at_call 49
    (with_reducible show Calls _ _ #[.slice ar gr.length cr] _ _)
    refine (newTally_any _ gr W HW.out.2.2 (by omega)).mono ?_
    rintro e w2 ⟨m2, es2, cc2, rfl, hm2, hkm2, hg2, hb2⟩
    have hd2 := (show DiskB w2 d room limit L made N F vn off 0 (.map (some m1)) rd k2 from hp_below HW.out.1 hb2 (hp_lt HW.out.1))
    obtain ⟨-, -, -, -, -, -, -, -, y8, y9, y10, y11⟩ := hd2.cells
    have yf := hd2.free
    have H2 := hid (And.intro hd2 (And.intro hm2 (And.intro hkm2 (And.intro hg2 hb2))))
    clear hd2 hm2 hg2 hb2 hkm2)
  go_end0
  obtain ⟨hd1, hm1, hkm1, hg1, hb1⟩ := H1.out
  obtain ⟨hd2, hm2, hkm2, hg2, hb2⟩ := H2.out
  obtain ⟨hd3, hkW, -⟩ := HW.out
  have hz1 := hb1.size
  have hz2 := hkW.size
  simp at hz1 hg1
  have K3 : Kept (fun k => k = d) w2 ((w2.setCell ⟨d, 10, none⟩ (.int .i64 0)).setCell ⟨d, 11, none⟩ (.map (some m2))) := ((Kept.refl (fun k => k = d) w2).setCell (p := ⟨d, 10, none⟩) (fun _ => rfl) _).setCell (p := ⟨d, 11, none⟩) (fun _ => rfl) _
  have k1' : Kept (fun _ => False) w w1 := ((Kept.refl (fun _ => False) w).alloc _).trans (Kept.ofBelow hb1) (fun _ _ e => e)
  have KA : Kept (fun k => k = d) w ((w2.setCell ⟨d, 10, none⟩ (.int .i64 0)).setCell ⟨d, 11, none⟩ (.map (some m2))) := (((k1'.mono (S' := fun k => k = d) (fun _ _ e => e.elim)).trans hkW (fun _ _ e => e)).trans (Kept.ofBelow hb2) (fun _ _ e => e.elim)).trans K3 (fun _ _ e => e)
  refine ⟨rfl, m1, m2, es1, cc1, es2, cc2, set_block (i := 11) (set_block (i := 10) hd2 _) _, ?_, hkm1, ?_, hkm2, by omega, by omega, KA⟩
  · exact hp_kept (hp_below (hp_kept hm1 hkW (by omega)) hb2 (by have := hp_lt hm1; omega)) K3 (by omega)
  · exact hp_kept hm2 K3 (by omega)

section
variable {w : World} {d : Nat} {t : Wt} {D : Dq} {n : Nat}

/-- A plan. -/
def planD (gs gr : List (Int × Int)) (D : Dq) : Dq := { D with st := 0, fs := gs, rd := 0, fr := gr }

theorem plan_dk (h : DkT w d t D) (sv rv : Value) (gs gr : List (Int × Int)) (h1 : Fl w sv gs) (h2 : Fl w rv gr) (l1 : gs.length ≤ 300) (l2 : gr.length ≤ 300) (n2 : gr ≠ [] → rv.ownBlock ≠ some d) :
    Calls Try.prog 36 #[.pointer (some ⟨d, 0, none⟩), .agg #[sv, rv]] w fun x w' => x = .returned (.tuple #[]) ∧ ∃ t', Goes d w t D w' t' (planD gs gr D) ∧ Kept (fun k => k = d) w w' := by
  refine (plan_any h.disk sv rv gs gr h1 h2 l1 l2 n2).mono ?_
  rintro x w' ⟨rfl, m1, m2, es1, cc1, es2, cc2, hD', hm1, hk1, hm2, hk2, hl1, hl2, hk⟩
  obtain ⟨a1, a2, a3, a4, a5, a6, a7⟩ := h.apart
  have bL := hp_lt h.hL.blk
  have bN := hp_lt h.hN.blk
  have bF := hp_lt h.hF.blk
  refine ⟨rfl, { t with k1 := .map (some m1), k2 := .map (some m2) }, ⟨⟨hD', h.hL.kept hk (fun e => a1 e.symm), h.hN.kept hk (fun e => a2 e.symm), h.hF.kept hk (fun e => a3 e.symm), h.pl, h.pn, h.pf, h.ln, h.lf, h.nf, fun f hf => (h.fil f hf).kept hk (fun k e e' => by subst e'; exact a7 f hf e), h.dis, ownsRow_kept h.nam hk (fun k e e' => by subst e'; exact a4 e), .inr ⟨m1, es1, cc1, rfl, hm1, hk1⟩, .inr ⟨m2, es2, cc2, rfl, hm2, hk2⟩, ?_⟩, hk.mono (fun _ _ e => .inl e), ?_⟩, hk⟩
  · intro b e
    have : b = m1 ∨ b = m2 := by
      rcases e with e | e
      · injection e with e; injection e with e; exact .inl e.symm
      · injection e with e; injection e with e; exact .inr e.symm
    dsimp only
    omega
  · rintro k (e | e | e | e | e | e | e | e)
    · exact .inl (.inl e)
    · exact .inl (.inr (.inl e))
    · exact .inl (.inr (.inr (.inl e)))
    · exact .inl (.inr (.inr (.inr (.inl e))))
    · exact .inl (.inr (.inr (.inr (.inr (.inl e)))))
    · injection e with e; injection e with e; exact .inr (by omega)
    · injection e with e; injection e with e; exact .inr (by omega)
    · exact .inl (.inr (.inr (.inr (.inr (.inr (.inr (.inr e)))))))

/-- The peak of a number among files. -/
def pkL (fs : List Fi) (m : Int) : Int := ((ff m fs).map fun f => (f.peak : Int)).getD 0

/-- held over any map of files. -/
theorem held_gen {L c : Nat} {kl : List (Int × Value)} {es : Array MapEntry} (hM : MG KI w L kl es c) (pt : Int → Nat) (ft : Int → Nat → Prop) (fs : List Fi) (pl : kl.Perm (encL pt fs)) (nd : (fs.map Fi.no).Nodup) (hfil : ∀ f ∈ fs, Fil w (ft f.no) (pt f.no) f) (hs : (fs.map Fi.peak).sum ≤ 100000000) (hl : fs.length ≤ 1000000) :
    Calls Try.prog 23 #[.map (some L)] w fun x w' => x = .returned (.tuple #[.int .i64 ((fs.map Fi.peak).sum : Nat), .int .i64 fs.length]) ∧ Below w.heap.size w w' := by
  have hsz : es.size = fs.length := by rw [hM.size, pl.length_eq]; simp [encL]
  have hsum : sumE (fun e => pkL fs (iv e.key)) es.toList = ((fs.map Fi.peak).sum : Nat) := by
    unfold sumE
    have e1 : es.toList.map (fun e => pkL fs (iv e.key)) = (es.toList.map (fun e => (e.key, e.val))).map (fun x => pkL fs (iv x.1)) := by rw [List.map_map]; rfl
    rw [e1, hM.kvs, List.map_map, sum_cast, List.map_map]
    have e2 : (kl.map ((fun x : Value × Value => pkL fs (iv x.1)) ∘ fun x : Int × Value => (KI.enc x.1, x.2))).Perm ((encL pt fs).map (fun x => pkL fs x.1)) := pl.map (fun x : Int × Value => pkL fs x.1)
    rw [sumI_perm e2]
    unfold encL
    rw [List.map_map]
    congr 1
    refine List.map_congr_left fun f hf => ?_
    simp only [Function.comp, pkL, ff_self nd hf, Option.map_some, Option.getD_some]
  have hpk : Peaks w es (fun e => pkL fs (iv e.key)) := by
    intro e he
    have h1 : (e.key, e.val) ∈ kl.map (fun x => (KI.enc x.1, x.2)) := by
      rw [← hM.kvs]
      exact List.mem_map.2 ⟨e, he, rfl⟩
    obtain ⟨x, hx, hxe⟩ := List.mem_map.1 h1
    injection hxe with hx1 hx2
    have h2 : x ∈ encL pt fs := pl.mem_iff.1 hx
    obtain ⟨f, hf, rfl⟩ := List.mem_map.1 h2
    have hk : iv e.key = f.no := by rw [← hx1]; rfl
    have hpk : pkL fs (iv e.key) = f.peak := by simp only [pkL, hk, ff_self nd hf, Option.map_some, Option.getD_some]
    refine ⟨pt f.no, hx2.symm, ?_, by dsimp only; rw [hpk]; omega⟩
    dsimp only
    rw [hpk]
    exact (hfil f hf).cells.2.2.2
  have := held_any L c es (fun e => pkL fs (iv e.key)) w hM.blk hM.hold hM.nd hpk (by rw [hsum]; omega) (by rw [hsz]; omega)
  rw [hsum, hsz] at this
  exact this

/-- A file more, without a name. -/
def addD (bs : List Int) (D : Dq) : Dq := { D with made := D.made + 1, files := D.files ++ [⟨D.made + 1, bs, []⟩] }

theorem add_dk (h : DkT w d t D) (hW : WD n D) (hn : n ≤ 1000000) (v : Value) (bs : List Int) (hs : Sl w v bs) (hl : bs.length ≤ 10000000) (hvd : bs ≠ [] → ∀ k, v.ownBlock = some k → k ≠ d) :
    Calls Try.prog 21 #[.pointer (some ⟨d, 0, none⟩), v] w fun x w' => x = .returned (.int .i64 (D.made + 1)) ∧ ∃ t', DkT w' d t' (addD bs D) ∧ Kept (fun k => k = d ∨ k = t.L) w w' ∧ (∀ k, Dft d t' (addD bs D) k → Dft d t D k ∨ w.heap.size ≤ k) ∧ t'.k1 = t.k1 ∧ t'.k2 = t.k2 := by
  have hm := hW.made
  have hno : ∀ g ∈ D.files, g.no ≠ D.made + 1 := fun g hg e => by have := (hW.rng g hg).2; omega
  have hffn : ff (D.made + 1) D.files = none := by
    cases e : ff (D.made + 1) D.files with
    | none => rfl
    | some g => exact absurd (ff_mem e).2 (hno g (ff_mem e).1)
  have k1 : lo (D.made + 1) t.kl = none := by rw [h.lkeys, hffn]; rfl
  refine (add_anyE d v bs w D.room D.limit t.L D.made (.map (some t.N)) (.map (some t.F)) t.vn D.off D.st t.k1 D.rd t.k2 t.eL t.cL h.disk h.hL.blk ((h.hL.findn (D.made + 1)).1 k1) (by omega) (by omega) hs (by omega) hvd).mono ?_
  rintro x w' ⟨rfl, p, vs, vd, vf, hp, hfile, hD', hL', hk⟩
  obtain ⟨ft', hF, hB⟩ := fil_new hfile hp (D.made + 1)
  obtain ⟨a1, a2, a3, a4, a5, a6, a7⟩ := h.apart
  have vnL : t.vn.ownBlock ≠ some t.L := fun e => by
    obtain ⟨cs, a⟩ := owns_block h.nam _ e
    exact hp_ne h.hL.blk a (by simp) rfl
  have oldf : ∀ g ∈ D.files, (if g.no = D.made + 1 then ft' else t.ft g.no) = t.ft g.no := fun g hg => if_neg (hno g hg)
  have oldp : ∀ g ∈ D.files, (if g.no = D.made + 1 then p else t.pt g.no) = t.pt g.no := fun g hg => if_neg (hno g hg)
  have hlt : ∀ g ∈ D.files, ∀ k, t.ft g.no k → k < w.heap.size := fun g hg k e => (h.fil g hg).lt k e
  refine ⟨rfl, { t with kl := t.kl ++ [(D.made + 1, .pointer (some ⟨p, 0, none⟩))], eL := _, cL := t.cL + 1, ft := fun m => if m = D.made + 1 then ft' else t.ft m, pt := fun m => if m = D.made + 1 then p else t.pt m }, ⟨hD', h.hL.push (D.made + 1) _ (by rw [lo_lookup]; exact k1) hL', h.hN.kept hk ?_, h.hF.kept hk ?_, ?_, h.pn, h.pf, h.ln, h.lf, h.nf, ?_, ?_, ownsRow_kept h.nam hk ?_, h.kf1.keptOf hk ?_, h.kf2.keptOf hk ?_, h.kd⟩, hk, ?_, rfl, rfl⟩
  · rintro (e | e)
    · exact a2 e.symm
    · exact h.ln e.symm
  · rintro (e | e)
    · exact a3 e.symm
    · exact h.lf e.symm
  · show (t.kl ++ [(D.made + 1, _)]).Perm (encL (fun m => if m = D.made + 1 then p else t.pt m) (D.files ++ [(⟨D.made + 1, bs, []⟩ : Fi)]))
    have e1 : encL (fun m => if m = D.made + 1 then p else t.pt m) (D.files ++ [(⟨D.made + 1, bs, []⟩ : Fi)]) = encL t.pt D.files ++ [(D.made + 1, .pointer (some ⟨p, 0, none⟩))] := by
      unfold encL
      rw [List.map_append]
      congr 1
      · exact List.map_congr_left fun g hg => by dsimp only; rw [oldp g hg]
      · simp
    rw [e1]
    exact h.pl.append_right _
  · intro g hg
    show Fil w' (if g.no = D.made + 1 then ft' else t.ft g.no) (if g.no = D.made + 1 then p else t.pt g.no) g
    rcases List.mem_append.1 hg with hg | hg
    · rw [oldf g hg, oldp g hg]
      refine (h.fil g hg).kept hk ?_
      intro k e
      obtain ⟨b1, b2, b3, b4, b5, b6, b7⟩ := h.fapart hg e
      rintro (e | e)
      · exact b1 e
      · exact b2 e
    · rw [List.mem_singleton] at hg
      subst hg
      rw [if_pos rfl, if_pos rfl]
      exact hF
  · intro g hg g' hg' hne k
    show (if g.no = D.made + 1 then ft' else t.ft g.no) k → ¬ (if g'.no = D.made + 1 then ft' else t.ft g'.no) k
    rcases List.mem_append.1 hg with hg | hg <;> rcases List.mem_append.1 hg' with hg' | hg'
    · rw [oldf g hg, oldf g' hg']
      exact h.dis g hg g' hg' hne k
    · rw [List.mem_singleton] at hg'
      subst hg'
      rw [oldf g hg, if_pos rfl]
      intro e e'
      have := hlt g hg k e
      have := hB k e'
      omega
    · rw [List.mem_singleton] at hg
      subst hg
      rw [oldf g' hg', if_pos rfl]
      intro e e'
      have := hlt g' hg' k e'
      have := hB k e
      omega
    · rw [List.mem_singleton] at hg hg'
      subst hg hg'
      exact absurd rfl hne
  · rintro k e (e' | e')
    · subst e'; exact a4 e
    · subst e'; exact vnL e
  · rintro b e (e' | e')
    · subst e'; exact a5 e
    · exact (h.kd b (.inl e)).1 e'
  · rintro b e (e' | e')
    · subst e'; exact a6 e
    · exact (h.kd b (.inr e)).1 e'
  · rintro k (e | e | e | e | e | e | e | ⟨g, hg, e⟩)
    · exact .inl (.inl e)
    · exact .inl (.inr (.inl e))
    · exact .inl (.inr (.inr (.inl e)))
    · exact .inl (.inr (.inr (.inr (.inl e))))
    · exact .inl (.inr (.inr (.inr (.inr (.inl e)))))
    · exact .inl (.inr (.inr (.inr (.inr (.inr (.inl e))))))
    · exact .inl (.inr (.inr (.inr (.inr (.inr (.inr (.inl e)))))))
    · replace e : (if g.no = D.made + 1 then ft' else t.ft g.no) k := e
      rcases List.mem_append.1 hg with hg | hg
      · rw [oldf g hg] at e
        exact .inl (.inr (.inr (.inr (.inr (.inr (.inr (.inr ⟨g, hg, e⟩)))))))
      · rw [List.mem_singleton] at hg
        subst hg
        rw [if_pos rfl] at e
        exact .inr (hB k e)

end
end Go.Proofs.Ytlmompdfombgeab
