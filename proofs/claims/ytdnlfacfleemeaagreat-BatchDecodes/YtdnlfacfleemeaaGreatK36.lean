import Derived.Test.YtdnlfacfleemeaaGreatK31
import Derived.Test.YtdnlfacfleemeaaGreatK35
import Derived.Test.YtdnlfacfleemeaaGreatK16
import Derived.Laws.CopyOwn
namespace Go.Proofs.YtdnlfacfleemeaaGreat
open Go.RowKit Go.Lib

/-- What the document's Encode answers. -/
def RPEnc (nm : ByteArray) (ar : Int) (xs : List Ins) (w : World) (e : Ending) (w' : World) : Prop :=
  ((procChk nm ar xs).2 ≠ 0 ∧ e = .returned (.tuple #[.slice none 0 0, .int .i64 (procChk nm ar xs).2]) ∧ Below w.heap.size w w') ∨
  ((procChk nm ar xs).2 = 0 ∧ ∃ v, e = .returned (.tuple #[v, .int .i64 0]) ∧ Sn w' v (procB nm ar xs) ∧ Below w.heap.size w w')

set_option maxRecDepth 100000 in
set_option maxHeartbeats 4000000 in
theorem rpencode_no (nm : ByteArray) (ar : Int) (S : Value) (xs : List Ins) (w : World) (h : CodeAt w S xs) (hl : xs.length ≤ 1000000000) (hE : (procChk nm ar xs).2 ≠ 0) :
    Calls Tryz.prog 50 #[.agg #[.string nm, .int .i64 ar, S]] w (RPEnc nm ar xs w) := by
  obtain ⟨E1, E2, hR⟩ : ∃ R1 R2, procChk nm ar xs = (R1, R2) := ⟨_, _, rfl⟩
  have hc := rpcheck_any nm ar S xs
  rw [hR] at hc hE
  unfold RPEnc
  rw [hR]
  dsimp only at hc hE ⊢
  have HC := hid hc
  have HH := hid h
  have HE := hid hE
  obtain ⟨ao, cap, rfl, -, -⟩ := h
  have hB0 := hid (below1 w (po nm ar (.slice ao xs.length cap)))
  have he2 : (E2 == 0) = false := by simpa using hE
  have he3 : (E2 != 0) = true := by simpa using hE
  clear hc hR hE
  go_enter Tryz.func50, Tryz.ntmps50
  go_wp2_with (first
    | (go_at_call 36
       refine (HC.out _ (HH.out.below (below1 w _)) hl).mono ?_
       rintro e w1 ⟨rfl, hb1⟩
       have H1 := hid (below_on hB0.out hb1)
       clear hb1))
  go_ret2
  exact .inl ⟨HE.out, rfl, H1.out⟩

theorem flat_take_len {α β : Type} (f : α → List β) (l : List α) (m : Nat) : ((l.take m).flatMap f).length ≤ (l.flatMap f).length := by
  have h : l.flatMap f = (l.take m).flatMap f ++ (l.drop m).flatMap f := by rw [← List.flatMap_append, List.take_append_drop]
  rw [h, List.length_append]
  omega

theorem take_lt (x : Ins) (l : List Int) (m : Nat) (c : Int) (h : l[m]? = some c) : (l.take (m + 1)).flatMap (ltB x) = (l.take m).flatMap (ltB x) ++ ltB x c := by
  rw [List.take_add_one, h]
  simp

theorem ren_start {w w1 w2 : World} {nm : ByteArray} {ar : Int} {S v2 : Value} {bs : List Int} (h : w1.heap[w.heap.size]? = some (po nm ar S)) (hw : Below w.heap.size w w1) (hs : Sn w2 v2 bs) (hb : Below w1.heap.size w1 w2)
    (hn : v2 = .slice none 0 0 ∨ ∀ k, v2.ownBlock = some k → w1.heap.size ≤ k ∧ k < w2.heap.size) : Ren w (w2.alloc (.cells #[v2, .int .i64 0] 66)) nm ar S w2.heap.size v2 bs := by
  have hB := below1 w2 (.cells #[v2, .int .i64 0] 66)
  have h2 := blk_of hb h (lt_of h)
  exact ⟨blk_of hB h2 (lt_of h2), heap_alloc_new w2 _, hs.below hB, fun k hk => by have := new_blk hn k hk; omega, lt_of h2, below_on (below_on hw hb) hB⟩

set_option maxRecDepth 100000 in
set_option maxHeartbeats 8000000 in
theorem rpencode_ok (nm : ByteArray) (ar : Int) (S : Value) (xs : List Ins) (w : World) (h : CodeAt w S xs) (hi : ∀ x ∈ xs, InsOk x) (hE : (procChk nm ar xs).2 = 0) :
    Calls Tryz.prog 50 #[.agg #[.string nm, .int .i64 ar, S]] w (RPEnc nm ar xs w) := by
  obtain ⟨E1, E2, hR⟩ : ∃ R1 R2, procChk nm ar xs = (R1, R2) := ⟨_, _, rfl⟩
  have HG := hid (good_of hE)
  have hln := HG.out.len
  have hc := rpcheck_any nm ar S xs
  rw [hR] at hc hE
  unfold RPEnc
  rw [hR]
  dsimp only at hc hE ⊢
  subst hE
  have HC := hid hc
  have HH := hid h
  have HI := hid hi
  obtain ⟨ao, cap, rfl, hcap, hcells⟩ := h
  have HX := hid hcells
  have hB0 := hid (below1 w (po nm ar (.slice ao xs.length cap)))
  have hR0 := hid (heap_alloc_new w (po nm ar (.slice ao xs.length cap)))
  have hcap' : (xs.length : Int) ≤ (cap : Int) := by omega
  have hln' : (xs.length : Int) ≤ 64 := by omega
  have HA := hid (And.intro HG.out.a0 (And.intro HG.out.a1 HG.out.size))
  clear hc hR hi hcells
  go_enter Tryz.func50, Tryz.ntmps50
  go_upto_region 5 with (first
    | (go_at_call 36
       refine (HC.out _ (HH.out.below (below1 w _)) (by omega)).mono ?_
       rintro e w1 ⟨rfl, hb1⟩
       have g1 := blk_of hb1 hR0.out (by simp)
       obtain ⟨p0, p1, p2, -⟩ := vfacts g1
       have H1 := hid (And.intro g1 (below_on hB0.out hb1))
       clear hb1 g1)
    | (go_at_call 51
       refine (wt0 _ [] nm _ (sn_nil _) (by simp) (by have := HA.out.2.2; omega)).mono ?_
       rintro e w2 ⟨v2, rfl, hs2, hb2, hn2⟩
       obtain ⟨bs2, hbs2⟩ : ∃ bs, bs = [] ++ (rowF 10 (strBs nm).length ++ strBs nm) := ⟨_, rfl⟩
       rw [← hbs2] at hs2
       have HB2 := hid hbs2
       obtain ⟨ao2, cc2, hv2⟩ := hs2.form
       rw [hv2] at hs2 hn2 ⊢
       have H2 := hid (ren_start H1.out.1 H1.out.2 hs2 hb2 hn2)
       clear hb2 hs2 hv2 hn2 hbs2))
  clear H1 hB0 hR0 HC
  refine cutG (fun W => Ren w W nm ar (.slice ao xs.length cap) w2.heap.size (.slice ao2 bs2.length cc2) bs2) H2.out ?_
  intro W4 H4
  generalize w2.heap.size = r at H4 ⊢
  have hln4 : bs2.length ≤ 100 := by
    rw [HB2.out]
    have := rowF_le 10 (strBs nm).length
    have := HA.out.2.2
    have := strBs_len nm
    simp only [List.nil_append, List.length_append]
    omega
  have H4 := hid H4
  clear H2
  obtain ⟨p0, p1, p2, -⟩ := vfacts H4.out.r0
  obtain ⟨q0, q1, fq⟩ := vfacts2k H4.out.rw
  have nl := H4.out.lt
  go_upto_region 6 with (first
    | (go_at_call 24
       refine (wn0 _ bs2 ar _ H4.out.sn (by omega) HA.out.1 (by have := HA.out.2.1; omega)).mono ?_
       rintro e w3 ⟨v3, rfl, hs3, hb3, hn3⟩
       obtain ⟨bs3, hbs3⟩ : ∃ bs, bs = bs2 ++ rowF 10 ar := ⟨_, rfl⟩
       rw [← hbs3] at hs3
       have HB3 := hid hbs3
       obtain ⟨ao3, cc3, hv3⟩ := hs3.form
       rw [hv3] at hs3 hn3 ⊢
       have g3 := H4.out.below hb3
       obtain ⟨q0, q1, fq⟩ := vfacts2k g3.rw
       have H3 := hid (H4.out.put hs3 hb3 hn3)
       clear hb3 hs3 hv3 hn3 g3 hbs3))
  refine cutG (fun W => Ren w W nm ar (.slice ao xs.length cap) r (.slice ao3 bs3.length cc3) bs3) H3.out ?_
  intro W5 H5
  have H5 := hid H5
  have hln5 : bs3.length ≤ 200 := by
    rw [HB3.out, List.length_append]
    have := rowF_le 10 ar
    omega
  clear H3 H4 q0 q1 fq p0 p1 p2
  obtain ⟨p0, p1, p2, -⟩ := vfacts H5.out.r0
  obtain ⟨q0, q1, fq⟩ := vfacts2k H5.out.rw
  go_upto_region 7 with (first
    | (go_at_call 24
       refine (wn0 _ bs3 (xs.length : Int) _ H5.out.sn (by omega) (by omega) (by omega)).mono ?_
       rintro e w3 ⟨v3, rfl, hs3, hb3, hn3⟩
       obtain ⟨bs4, hbs4⟩ : ∃ bs, bs = bs3 ++ rowF 10 (xs.length : Int) := ⟨_, rfl⟩
       rw [← hbs4] at hs3
       have HB4 := hid hbs4
       obtain ⟨ao4, cc4, hv3⟩ := hs3.form
       rw [hv3] at hs3 hn3 ⊢
       have g3 := H5.out.below hb3
       obtain ⟨q0, q1, fq⟩ := vfacts2k g3.rw
       have H6 := hid (H5.out.put hs3 hb3 hn3)
       clear hb3 hs3 hv3 hn3 g3 hbs4))
  refine cutG (fun W => Ren w W nm ar (.slice ao xs.length cap) r (.slice ao4 bs4.length cc4) bs4) H6.out ?_
  intro W6 H7
  have H7 := hid H7
  have hln6 : bs4.length ≤ 300 := by
    rw [HB4.out, List.length_append]
    have := rowF_le 10 (xs.length : Int)
    omega
  clear H6 H5 q0 q1 fq p0 p1 p2
  obtain ⟨p0, p1, p2, -⟩ := vfacts H7.out.r0
  obtain ⟨q0, q1, fq⟩ := vfacts2k H7.out.rw
  go_wp2
  go_loopw [7] (fun ix wr => ∃ (n : Nat) (ao5 : Option Addr) (c5 : Nat) (bs : List Int), n ≤ xs.length ∧ ix = .int .i64 n ∧ Hid (bs = bs4 ++ (xs.take n).flatMap insBx) ∧ Hid (Ren w wr nm ar (.slice ao xs.length cap) r (.slice ao5 bs.length c5) bs)) (fun ix _ => xs.length - (intOf ix).toNat)
  case atStart => exact ⟨0, ao4, cc4, bs4, Nat.zero_le _, rfl, hid (by simp), H7⟩
  case round =>
    clear H7 p0 p1 p2 q0 q1 fq
    obtain ⟨n, ao5, c5, bs, hn, rfl, hbs, hT⟩ := hrel
    obtain ⟨p0, p1, p2, -⟩ := vfacts hT.out.r0
    by_cases hlt : n < xs.length
    · obtain ⟨x, hx⟩ : ∃ x, xs[n]? = some x := ⟨_, List.getElem?_eq_getElem hlt⟩
      obtain ⟨b, off, rfl, hat⟩ := HX.out (by intro e; rw [e] at hlt; simp at hlt)
      have hat := hat n x hx
      obtain ⟨c0, c1, c2, c3, c4, c5', c6, c7⟩ := hat.same (hT.out.hb.block b hat.lt)
      have HGX := hid (HG.out.at hx)
      have HIX := hid (HI.out x (List.mem_of_getElem? hx))
      have hlt' : (n : Int) < (xs.length : Int) := by omega
      obtain ⟨q0, q1, fq⟩ := vfacts2k hT.out.rw
      have m1 := lt_of hT.out.r0
      have m2 := World.new_ne wr ⟨b, off + n * 8, none⟩ c0
      have m3 := lt_of hT.out.rw
      have hu : IntKind.u8.wrap x.op = x.op := by
        have := HGX.out.1
        rw [IntKind.wrap_u8]
        omega
      have hlen : bs.length ≤ 100000000 := by
        rw [hbs.out, List.length_append]
        have h1 := code_len (xs.take n) (fun y hy => insBx_len y (by obtain ⟨j, hj⟩ := List.getElem?_of_mem (List.mem_of_mem_take hy); exact (HG.out.at hj).2.2) (HI.out y (List.mem_of_mem_take hy)))
        have h2 : (xs.take n).length ≤ 64 := by rw [List.length_take]; omega
        have h3 : 1002000 * (xs.take n).length ≤ 1002000 * 64 := Nat.mul_le_mul_left _ h2
        omega
      have HX0 := hid hx
      clear hat hx
      go_upto_region 12 with (first
        | (go_at_call 49
           refine (wb0 _ bs x.op _ (hT.out.sn.below (below1 wr _)) (by omega)).mono ?_
           rintro e w7 ⟨v7, rfl, hs7, hb7, hn7⟩
           obtain ⟨bs7, hbs7⟩ : ∃ bs', bs' = bs ++ [x.op] := ⟨_, rfl⟩
           rw [← hbs7] at hs7
           have HB7 := hid hbs7
           obtain ⟨ao7, cc7, hv7⟩ := hs7.form
           rw [hv7] at hs7 hn7 ⊢
           have g7 := (hT.out.below (below1 wr _)).below hb7
           obtain ⟨q0, q1, fq⟩ := vfacts2k g7.rw
           have H7 := hid (And.intro ((hT.out.below (below1 wr _)).put hs7 hb7 hn7) (put_other (heap_alloc_new wr _) hb7 (Nat.ne_of_gt m3) (.slice ao7 bs7.length cc7)))
           clear hb7 hs7 hv7 hn7 g7 hbs7))
      refine cutG (fun W => Ren w W nm ar (.slice (some ⟨b, off, none⟩) xs.length cap) r (.slice ao7 bs7.length cc7) bs7 ∧ W.heap[wr.heap.size]? = some (io x.op x.a x.b x.c x.n x.k x.i x.t)) H7.out ?_
      intro W7 H8
      have hrx : wr.heap.size ≠ r := Nat.ne_of_gt m3
      clear c0 c1 c2 c3 c4 c5' c6 c7 m1 m2 m3 p0 p1 p2 q0 q1 fq H7 hu
      generalize wr.heap.size = rx at H8 hrx ⊢
      have H8 := hid H8
      obtain ⟨x0, x1, x2, x3, x4, x5, x6, x7, -⟩ := vfacts8 H8.out.2
      have LT := hid (lts_of x HGX.out.1 HGX.out.2.1)
      have HLB := hid (ltB_all x HGX.out.1)
      have HF := hid (rfields_any x.op)
      have hLs := fdS_len x.op
      have HLO := LT.out.of
      have HLT := hid (And.intro LT.out.a (And.intro LT.out.b (And.intro LT.out.c LT.out.n)))
      have hbl7 : bs7.length ≤ 100000001 := by rw [HB7.out, List.length_append]; simp; omega
      generalize hL : fdS x.op = L at HF hLs HLB HLO
      have HL := hid hL
      have HLO := hid HLO
      clear hL hlen
      go_wp2_with (first
        | (go_at_call 74
           refine (HF.out _).mono ?_
           rintro e w' ⟨rfl, e1⟩
           rw [e1]
           clear e1 w'))
      go_loopw [10] (fun kx wq => ∃ (m : Nat) (ao8 : Option Addr) (c8 : Nat) (bs8 : List Int), m ≤ L.size ∧ kx = .int .i64 m ∧ Hid (bs8 = bs7 ++ ((strBs L).take m).flatMap (ltB x)) ∧ Hid (Ren w wq nm ar (.slice (some ⟨b, off, none⟩) xs.length cap) r (.slice ao8 bs8.length c8) bs8 ∧ wq.heap[rx]? = some (io x.op x.a x.b x.c x.n x.k x.i x.t))) (fun kx _ => L.size - (intOf kx).toNat)
      case atStart => exact ⟨0, ao7, cc7, bs7, Nat.zero_le _, rfl, hid (by simp), H8⟩
      clear H8 x0 x1 x2 x3 x4 x5 x6 x7
      obtain ⟨m, ao8, c8, bs8, hml, rfl, HB8, hQ⟩ := hrel
      by_cases hm : m < L.size
      · obtain ⟨a1, ha1⟩ : ∃ a1 : UInt8, a1 = L[m]'hm := ⟨_, rfl⟩
        have HAT := hid (strBs_at L m hm)
        rw [← ha1] at HAT
        obtain ⟨x0, x1, x2, x3, x4, x5, x6, x7, -⟩ := vfacts8 hQ.out.2
        obtain ⟨q0, q1, fq⟩ := vfacts2k hQ.out.1.rw
        have hl8 : bs8.length ≤ 200000000 := by
          rw [HB8.out, List.length_append]
          have h1 := flat_take_len (ltB x) (strBs L) m
          have h2 := insBx_len x HGX.out.2.2 HIX.out
          rw [← HLB.out, List.length_append] at h2
          omega
        rcases HLO.out _ (List.mem_of_getElem? HAT.out) with hc | hc | hc | hc | hc | hc
        · skip
          have hbd : 0 ≤ x.a ∧ x.a < 256 := LT.out.a (.inl (by rw [HL.out]; exact List.mem_of_getElem? (hc ▸ HAT.out)))
          have hu : IntKind.u8.wrap x.a = x.a := by rw [IntKind.wrap_u8]; omega
          have e65 : (((L[m]'hm).toNat : Int) == 65) = true := by rw [← ha1, hc]; rfl
          have HEQ : Hid (ltB x (a1.toNat : Int) = [x.a]) := hid (by rw [hc]; rfl)
          have HBD := hid hbd
          clear hc hbd
          subst ha1
          go_wp2_with (first
            | (go_at_call 49
               refine (wb0 _ bs8 x.a _ hQ.out.1.sn (by omega)).mono ?_
               rintro e w9 ⟨v9, rfl, hs9, hb9, hn9⟩
               obtain ⟨bs9, hbs9⟩ : ∃ bs', bs' = bs8 ++ [x.a] := ⟨_, rfl⟩
               rw [← hbs9] at hs9
               have HB9 := hid hbs9
               obtain ⟨ao9, cc9, hv9⟩ := hs9.form
               rw [hv9] at hs9 hn9 ⊢
               have g9 := hQ.out.1.below hb9
               obtain ⟨q0, q1, fq⟩ := vfacts2k g9.rw
               have H9 := hid (And.intro (hQ.out.1.put hs9 hb9 hn9) (put_other hQ.out.2 hb9 hrx (.slice ao9 bs9.length cc9)))
               clear hb9 hs9 hv9 hn9 g9 hbs9))
          go_roundw
          case rel => exact ⟨m + 1, ao9, cc9, bs9, by omega, by go_num, hid (by rw [HB9.out, HB8.out, take_lt x _ m _ HAT.out, List.append_assoc]; rw [HEQ.out]), H9⟩
          case measure => simp [intOf]; omega
        · skip
          have hbd : 0 ≤ x.b ∧ x.b < 256 := LT.out.b (by rw [HL.out]; exact List.mem_of_getElem? (hc ▸ HAT.out))
          have hu : IntKind.u8.wrap x.b = x.b := by rw [IntKind.wrap_u8]; omega
          have e65 : (((L[m]'hm).toNat : Int) == 65) = false := by rw [← ha1, hc]; rfl
          have e66 : (((L[m]'hm).toNat : Int) == 66) = true := by rw [← ha1, hc]; rfl
          have HEQ : Hid (ltB x (a1.toNat : Int) = [x.b]) := hid (by rw [hc]; rfl)
          have HBD := hid hbd
          clear hc hbd
          subst ha1
          go_wp2_with (first
            | (go_at_call 49
               refine (wb0 _ bs8 x.b _ hQ.out.1.sn (by omega)).mono ?_
               rintro e w9 ⟨v9, rfl, hs9, hb9, hn9⟩
               obtain ⟨bs9, hbs9⟩ : ∃ bs', bs' = bs8 ++ [x.b] := ⟨_, rfl⟩
               rw [← hbs9] at hs9
               have HB9 := hid hbs9
               obtain ⟨ao9, cc9, hv9⟩ := hs9.form
               rw [hv9] at hs9 hn9 ⊢
               have g9 := hQ.out.1.below hb9
               obtain ⟨q0, q1, fq⟩ := vfacts2k g9.rw
               have H9 := hid (And.intro (hQ.out.1.put hs9 hb9 hn9) (put_other hQ.out.2 hb9 hrx (.slice ao9 bs9.length cc9)))
               clear hb9 hs9 hv9 hn9 g9 hbs9))
          go_roundw
          case rel => exact ⟨m + 1, ao9, cc9, bs9, by omega, by go_num, hid (by rw [HB9.out, HB8.out, take_lt x _ m _ HAT.out, List.append_assoc]; rw [HEQ.out]), H9⟩
          case measure => simp [intOf]; omega
        · skip
          have hbd : 0 ≤ x.c ∧ x.c < 256 := LT.out.c (by rw [HL.out]; exact List.mem_of_getElem? (hc ▸ HAT.out))
          have hu : IntKind.u8.wrap x.c = x.c := by rw [IntKind.wrap_u8]; omega
          have e65 : (((L[m]'hm).toNat : Int) == 65) = false := by rw [← ha1, hc]; rfl
          have e66 : (((L[m]'hm).toNat : Int) == 66) = false := by rw [← ha1, hc]; rfl
          have e67 : (((L[m]'hm).toNat : Int) == 67) = true := by rw [← ha1, hc]; rfl
          have HEQ : Hid (ltB x (a1.toNat : Int) = [x.c]) := hid (by rw [hc]; rfl)
          have HBD := hid hbd
          clear hc hbd
          subst ha1
          go_wp2_with (first
            | (go_at_call 49
               refine (wb0 _ bs8 x.c _ hQ.out.1.sn (by omega)).mono ?_
               rintro e w9 ⟨v9, rfl, hs9, hb9, hn9⟩
               obtain ⟨bs9, hbs9⟩ : ∃ bs', bs' = bs8 ++ [x.c] := ⟨_, rfl⟩
               rw [← hbs9] at hs9
               have HB9 := hid hbs9
               obtain ⟨ao9, cc9, hv9⟩ := hs9.form
               rw [hv9] at hs9 hn9 ⊢
               have g9 := hQ.out.1.below hb9
               obtain ⟨q0, q1, fq⟩ := vfacts2k g9.rw
               have H9 := hid (And.intro (hQ.out.1.put hs9 hb9 hn9) (put_other hQ.out.2 hb9 hrx (.slice ao9 bs9.length cc9)))
               clear hb9 hs9 hv9 hn9 g9 hbs9))
          go_roundw
          case rel => exact ⟨m + 1, ao9, cc9, bs9, by omega, by go_num, hid (by rw [HB9.out, HB8.out, take_lt x _ m _ HAT.out, List.append_assoc]; rw [HEQ.out]), H9⟩
          case measure => simp [intOf]; omega
        · skip
          have hbd : 0 ≤ x.a ∧ x.a < 256 := LT.out.a (.inr (by rw [HL.out]; exact List.mem_of_getElem? (hc ▸ HAT.out)))
          have e65 : (((L[m]'hm).toNat : Int) == 65) = false := by rw [← ha1, hc]; rfl
          have e66 : (((L[m]'hm).toNat : Int) == 66) = false := by rw [← ha1, hc]; rfl
          have e67 : (((L[m]'hm).toNat : Int) == 67) = false := by rw [← ha1, hc]; rfl
          have e97 : (((L[m]'hm).toNat : Int) == 97) = true := by rw [← ha1, hc]; rfl
          have HEQ : Hid (ltB x (a1.toNat : Int) = rowF 10 x.a) := hid (by rw [hc]; rfl)
          have HBD := hid hbd
          clear hc hbd
          subst ha1
          go_wp2_with (first
            | (go_at_call 24
               refine (wn0 _ bs8 x.a _ hQ.out.1.sn (by omega) HBD.out.1 (by have := HBD.out.2; omega)).mono ?_
               rintro e w9 ⟨v9, rfl, hs9, hb9, hn9⟩
               obtain ⟨bs9, hbs9⟩ : ∃ bs', bs' = bs8 ++ rowF 10 x.a := ⟨_, rfl⟩
               rw [← hbs9] at hs9
               have HB9 := hid hbs9
               obtain ⟨ao9, cc9, hv9⟩ := hs9.form
               rw [hv9] at hs9 hn9 ⊢
               have g9 := hQ.out.1.below hb9
               obtain ⟨q0, q1, fq⟩ := vfacts2k g9.rw
               have H9 := hid (And.intro (hQ.out.1.put hs9 hb9 hn9) (put_other hQ.out.2 hb9 hrx (.slice ao9 bs9.length cc9)))
               clear hb9 hs9 hv9 hn9 g9 hbs9))
          go_roundw
          case rel => exact ⟨m + 1, ao9, cc9, bs9, by omega, by go_num, hid (by rw [HB9.out, HB8.out, take_lt x _ m _ HAT.out, List.append_assoc]; rw [HEQ.out]), H9⟩
          case measure => simp [intOf]; omega
        · skip
          have hbd : 0 ≤ x.n ∧ x.n < 256 := LT.out.n (by rw [HL.out]; exact List.mem_of_getElem? (hc ▸ HAT.out))
          have e65 : (((L[m]'hm).toNat : Int) == 65) = false := by rw [← ha1, hc]; rfl
          have e66 : (((L[m]'hm).toNat : Int) == 66) = false := by rw [← ha1, hc]; rfl
          have e67 : (((L[m]'hm).toNat : Int) == 67) = false := by rw [← ha1, hc]; rfl
          have e97 : (((L[m]'hm).toNat : Int) == 97) = false := by rw [← ha1, hc]; rfl
          have e78 : (((L[m]'hm).toNat : Int) == 78) = true := by rw [← ha1, hc]; rfl
          have HEQ : Hid (ltB x (a1.toNat : Int) = rowF 10 x.n) := hid (by rw [hc]; rfl)
          have HBD := hid hbd
          clear hc hbd
          subst ha1
          go_wp2_with (first
            | (go_at_call 24
               refine (wn0 _ bs8 x.n _ hQ.out.1.sn (by omega) HBD.out.1 (by have := HBD.out.2; omega)).mono ?_
               rintro e w9 ⟨v9, rfl, hs9, hb9, hn9⟩
               obtain ⟨bs9, hbs9⟩ : ∃ bs', bs' = bs8 ++ rowF 10 x.n := ⟨_, rfl⟩
               rw [← hbs9] at hs9
               have HB9 := hid hbs9
               obtain ⟨ao9, cc9, hv9⟩ := hs9.form
               rw [hv9] at hs9 hn9 ⊢
               have g9 := hQ.out.1.below hb9
               obtain ⟨q0, q1, fq⟩ := vfacts2k g9.rw
               have H9 := hid (And.intro (hQ.out.1.put hs9 hb9 hn9) (put_other hQ.out.2 hb9 hrx (.slice ao9 bs9.length cc9)))
               clear hb9 hs9 hv9 hn9 g9 hbs9))
          go_roundw
          case rel => exact ⟨m + 1, ao9, cc9, bs9, by omega, by go_num, hid (by rw [HB9.out, HB8.out, take_lt x _ m _ HAT.out, List.append_assoc]; rw [HEQ.out]), H9⟩
          case measure => simp [intOf]; omega
        · skip
          have e65 : (((L[m]'hm).toNat : Int) == 65) = false := by rw [← ha1, hc]; rfl
          have e66 : (((L[m]'hm).toNat : Int) == 66) = false := by rw [← ha1, hc]; rfl
          have e67 : (((L[m]'hm).toNat : Int) == 67) = false := by rw [← ha1, hc]; rfl
          have e97 : (((L[m]'hm).toNat : Int) == 97) = false := by rw [← ha1, hc]; rfl
          have e78 : (((L[m]'hm).toNat : Int) == 78) = false := by rw [← ha1, hc]; rfl
          have e86 : (((L[m]'hm).toNat : Int) == 86) = true := by rw [← ha1, hc]; rfl
          have HEQ : Hid (ltB x (a1.toNat : Int) = rowF 10 ((encB x.k x.i x.t).length : Nat) ++ encB x.k x.i x.t) := hid (by rw [hc]; rfl)
          have HQ := hid (encB_len x.k x.i x.t HGX.out.2.2 HIX.out.1 HIX.out.2)
          clear hc
          subst ha1
          go_wp2_with (first
            | (go_at_call 52
               refine (rencode_any x.k x.i x.t HIX.out.1 HIX.out.2 _).mono ?_
               rintro e w8 (⟨h8, -⟩ | ⟨-, v8, rfl, hs8, hb8, -⟩)
               · exact absurd HGX.out.2.2 h8
               have hst := sl_string hs8.1
               have H8 := hid (And.intro (hQ.out.1.below hb8) (blk_of hb8 hQ.out.2 (lt_of hQ.out.2)))
               obtain ⟨q0, q1, fq⟩ := vfacts2k H8.out.1.rw
               clear hb8 hs8)
            | (go_at_call 51
               refine (wt0 _ bs8 (mkStr (encB x.k x.i x.t)) _ H8.out.1.sn (by omega) (by rw [mkStr_size]; have := HQ.out.1; omega)).mono ?_
               rintro e w9 ⟨v9, rfl, hs9, hb9, hn9⟩
               obtain ⟨bs9, hbs9⟩ : ∃ bs', bs' = bs8 ++ (rowF 10 (strBs (mkStr (encB x.k x.i x.t))).length ++ strBs (mkStr (encB x.k x.i x.t))) := ⟨_, rfl⟩
               rw [← hbs9] at hs9
               have HB9 := hid hbs9
               obtain ⟨ao9, cc9, hv9⟩ := hs9.form
               rw [hv9] at hs9 hn9 ⊢
               have g9 := H8.out.1.below hb9
               obtain ⟨q0, q1, fq⟩ := vfacts2k g9.rw
               have H9 := hid (And.intro (H8.out.1.put hs9 hb9 hn9) (put_other H8.out.2 hb9 hrx (.slice ao9 bs9.length cc9)))
               clear hb9 hs9 hv9 hn9 g9 hbs9))
          go_roundw
          case rel => exact ⟨m + 1, ao9, cc9, bs9, by omega, by go_num, hid (by rw [HB9.out, HB8.out, take_lt x _ m _ HAT.out, List.append_assoc]; rw [HEQ.out, strBs_mkStr _ HQ.out.2]), H9⟩
          case measure => simp [intOf]; omega
      · have HN : Hid (bs8 = bs4 ++ (xs.take (n + 1)).flatMap insBx) := hid (by
          rw [HB8.out, List.take_of_length_le (by rw [strBs_len]; omega), HB7.out, hbs.out, take_flat xs n x HX0.out, ← HLB.out]
          simp [List.append_assoc])
        go_wp2
        go_roundw
        case rel => exact ⟨n + 1, ao8, c8, bs8, by omega, by go_num, HN, hid hQ.out.1⟩
        case measure => simp [intOf]; omega
    · have HP : Hid (procB nm ar xs = bs) := hid (by
        rw [hbs.out, List.take_of_length_le (by omega), HB4.out, HB3.out, HB2.out]
        simp [procB, List.append_assoc])
      obtain ⟨q0, q1, fq⟩ := vfacts2k hT.out.rw
      go_wp2
      go_ret2
      rw [HP.out]
      exact .inr ⟨trivial, _, rfl, hT.out.sn, hT.out.hb⟩

end Go.Proofs.YtdnlfacfleemeaaGreat

namespace Go.Proofs.YtdnlfacfleemeaaGreat
open Go.RowKit Go.Lib

/-- The bytes that Encode answers: none beside an error. -/
def encR (nm : ByteArray) (ar : Int) (xs : List Ins) : List Int := if (procChk nm ar xs).2 = 0 then procB nm ar xs else []

def ESl (bs : List Int) (E : Int) (w : World) (e : Ending) (w' : World) : Prop := ∃ v, e = .returned (.tuple #[v, .int .i64 E]) ∧ Sl w' v bs ∧ Below w.heap.size w w'

theorem encR_len (nm : ByteArray) (ar : Int) (xs : List Ins) (hi : ∀ x ∈ xs, InsOk x) : (encR nm ar xs).length ≤ 100000000 := by
  unfold encR
  split
  · rename_i h
    exact procB_len nm ar xs h hi
  · simp

theorem bytes_same (a b : Value) (xs : List Int) (w : World) (ha : Sl w a xs) (hb : Sl w b xs) (hl : xs.length ≤ 1000000000) :
    Calls Tryz.prog 14 #[a, b] w fun x w' => DN w w' ∧ x = .returned (.bool true) := by
  have := bytes_any a b xs xs w ha hb hl
  rwa [show decide (xs = xs) = true by simp] at this

theorem penc_sl (nm : ByteArray) (ar : Int) (S : Value) (xs : List Ins) (w : World) (h : CodeAt w S xs) (hl : xs.length ≤ 1000000000) (hi : ∀ x ∈ xs, InsOk x) :
    Calls Tryz.prog 42 #[.agg #[.string nm, .int .i64 ar, S]] w (ESl (encR nm ar xs) (procChk nm ar xs).2 w) := by
  refine (pencode_any nm ar S xs w h hl hi).mono ?_
  rintro e w' (⟨h1, rfl, hb⟩ | ⟨h1, g, rfl, ho, _, hb⟩)
  · refine ⟨_, rfl, ?_, hb⟩
    rw [encR, if_neg h1]
    exact (sn_nil _).1
  · refine ⟨_, by rw [h1], ?_, hb⟩
    have hp := procB_len nm ar xs h1 hi
    rw [encR, if_pos h1]
    exact sl_of_owns (ho.owns (B := 0) (Nat.zero_le _) (by unfold maxLen; omega))

theorem renc_sl (nm : ByteArray) (ar : Int) (S : Value) (xs : List Ins) (w : World) (h : CodeAt w S xs) (hl : xs.length ≤ 1000000000) (hi : ∀ x ∈ xs, InsOk x) :
    Calls Tryz.prog 50 #[.agg #[.string nm, .int .i64 ar, S]] w (ESl (encR nm ar xs) (procChk nm ar xs).2 w) := by
  by_cases hE : (procChk nm ar xs).2 = 0
  · refine (rpencode_ok nm ar S xs w h hi hE).mono ?_
    rintro e w' (⟨h1, -⟩ | ⟨_, v, rfl, hs, hb⟩)
    · exact absurd hE h1
    · refine ⟨_, by rw [hE], ?_, hb⟩
      rw [encR, if_pos hE]
      exact hs.1
  · refine (rpencode_no nm ar S xs w h hl hE).mono ?_
    rintro e w' (⟨_, rfl, hb⟩ | ⟨h1, -⟩)
    · refine ⟨_, rfl, ?_, hb⟩
      rw [encR, if_neg hE]
      exact (sn_nil _).1
    · exact absurd h1 hE

end Go.Proofs.YtdnlfacfleemeaaGreat

namespace Go.Proofs.YtdnlfacfleemeaaGreat
open Go.RowKit Go.Lib

/-! What a Decode answers, in one shape. -/
def dN : Except Int (List Int × Int × List Ins) → ByteArray
  | .ok (nm, _, _) => mkStr nm
  | .error _ => emp
def dA : Except Int (List Int × Int × List Ins) → Int
  | .ok (_, ar, _) => ar
  | .error _ => 0
def dX : Except Int (List Int × Int × List Ins) → List Ins
  | .ok (_, _, xs) => xs
  | .error _ => []
def dE : Except Int (List Int × Int × List Ins) → Int
  | .ok _ => 0
  | .error E => E

def UPost (w : World) (n : ByteArray) (a : Int) (X : List Ins) (E : Int) (e : Ending) (w' : World) : Prop :=
  Below w.heap.size w w' ∧ ∃ (so : Option Addr) (sc : Nat), e = .returned (.tuple #[.agg #[.string n, .int .i64 a, .slice so X.length sc], .int .i64 E]) ∧ CodeAt w' (.slice so X.length sc) X

theorem code_nil (w : World) : CodeAt w (.slice none 0 0) [] := ⟨none, 0, rfl, Nat.le_refl _, fun h => absurd rfl h⟩

theorem pdec_u (v : Value) (bs : List Int) (w : World) (h : Sl w v bs) (ho : Oct bs) (hl : bs.length ≤ 1000000000) : Calls Tryz.prog 105 #[v] w (UPost w (dN (decP bs)) (dA (decP bs)) (dX (decP bs)) (dE (decP bs))) := by
  refine (pdecode_any v bs w h ho hl).mono ?_
  rintro e w' ⟨hb, hm⟩
  refine ⟨hb, ?_⟩
  cases hD : decP bs with
  | error E =>
    rw [hD] at hm
    exact ⟨none, 0, hm, code_nil _⟩
  | ok r =>
    obtain ⟨nm, ar, xs⟩ := r
    rw [hD] at hm
    obtain ⟨cb, rfl, _, _, h3⟩ := hm
    exact ⟨_, _, rfl, ⟨some ⟨cb, 0, none⟩, xs.length, rfl, Nat.le_refl _, fun _ => ⟨cb, 0, rfl, fun j x hj => by rw [Nat.zero_add]; exact h3 j x hj⟩⟩⟩

theorem rdec_u (v : Value) (bs : List Int) (w : World) (h : Sl w v bs) (ho : Oct bs) (hl : bs.length ≤ 1000000000) : Calls Tryz.prog 62 #[v] w (UPost w (dN (decP bs)) (dA (decP bs)) (dX (decP bs)) (dE (decP bs))) := by
  obtain ⟨ao, cc, rfl, _, _⟩ := id h
  refine (rpdecode_head ao cc bs w h ho hl).mono ?_
  rintro e w' ⟨hb, hm⟩
  refine ⟨hb, ?_⟩
  cases hD : decP bs with
  | error E =>
    rw [hD] at hm
    exact ⟨none, 0, hm, code_nil _⟩
  | ok r =>
    obtain ⟨nm, ar, xs⟩ := r
    rw [hD] at hm
    obtain ⟨S, rfl, hc, -⟩ := hm
    obtain ⟨so, sc, rfl, _, _⟩ := id hc
    exact ⟨_, _, rfl, hc⟩

theorem dX_len (bs : List Int) : (dX (decP bs)).length ≤ 64 := by
  cases hD : decP bs with
  | error E => exact Nat.zero_le _
  | ok r =>
    obtain ⟨nm, ar, xs⟩ := r
    exact tkProc_len bs nm ar xs (decP_ok bs nm ar xs hD).1

theorem same_yes (n : ByteArray) (a : Int) (X : List Ins) (S1 S2 : Value) (w : World) (h1 : CodeAt w S1 X) (h2 : CodeAt w S2 X) (hl : X.length ≤ 64) :
    Calls Tryz.prog 33 #[.agg #[.string n, .int .i64 a, S1], .agg #[.string n, .int .i64 a, S2]] w fun e w' => e = .returned (.bool true) ∧ Below w.heap.size w w' := by
  have := same_any n a S1 X n a S2 X w h1 h2 (by omega)
  rwa [show sameB n a X n a X = true by simp [sameB]] at this

/-! A block of bytes. -/
theorem own_set {W : World} {g : Nat} {zs : List Int} {i : Nat} {x : Int} (h : Own W g zs) : Own (W.setCell ⟨g, i, none⟩ (.int .u8 x)) g (zs.set i x) := by
  unfold Own at *
  simp [World.setCell, Array.getElem?_modify, h, List.map_set]

theorem own_cell {W : World} {g : Nat} {zs : List Int} {j : Nat} {x : Int} (h : Own W g zs) (hj : zs[j]? = some x) : W.cell? ⟨g, j, none⟩ = some (.int .u8 x) := by
  rw [cell_of_row W _ _ _ _ _ h]
  simp [hj]

theorem own_free {W : World} {g : Nat} {zs : List Int} (h : Own W g zs) (o : Nat) : W.frozen? ⟨g, o, none⟩ = false := free_of_block h

theorem own_made {W : World} {B g n : Nat} (h : W.ownsRow B 5 1 (.slice (some ⟨g, 0, none⟩) n n) n (madeCells (Value.int .u8 0).cells (n * 1)).toList) : ∃ zs, Own W g zs ∧ zs.length = n := by
  rcases h.2 with ⟨h1, _⟩ | ⟨g', cp, cur, h1, _, h2, _, _, h3, h4⟩
  · cases h1
  · simp at h1
    obtain ⟨rfl, rfl⟩ := h1
    refine ⟨List.replicate n 0, ?_, by simp⟩
    unfold Own
    rw [h2]
    congr 2
    have e : cur.toList = B8 (List.replicate n 0) := by
      rw [List.take_of_length_le (by simp [h3])] at h4
      rw [h4]
      apply List.ext_getElem
      · simp [madeCells]
      · intro i h5 h6
        simp [madeCells, Value.cells, Nat.mod_one]
    rw [← e]

theorem own_fill {W : World} {g N : Nat} {zs : List Int} (h : Own W g zs) (hl : zs.length = N) (ha : ∀ j, j < N → zs[j]? = some 171) : Own W g (List.replicate N 171) := by
  have e : zs = List.replicate N 171 := by
    apply List.ext_getElem
    · simp [hl]
    · intro i h5 h6
      have := ha i (by omega)
      rw [List.getElem?_eq_getElem h5] at this
      simpa using Option.some.inj this
  rwa [e] at h

theorem own_spl {W : World} {g N : Nat} {bs : List Int} (hN : bs.length + 9 = N) (h : W.heap[g]? = some (.cells (splice (B8 (List.replicate N 171)) 0 (B8 bs)).toArray 5 (0, 0))) : Own W g (bs ++ List.replicate 9 171) := by
  unfold Own
  rw [h]
  congr 3
  have : N - bs.length = 9 := by omega
  simp [splice, List.drop_replicate, this]

theorem own_sl {W : World} {g : Nat} {zs : List Int} (h : Own W g zs) (hl : zs.length ≤ 1000000000) : Sl W (.slice (some ⟨g, 0, none⟩) zs.length zs.length) zs := sl_of_owns (h.owns (B := 0) (Nat.zero_le _) (by unfold maxLen; omega))

theorem own_below {W W' : World} {g : Nat} {zs : List Int} (h : Own W g zs) (hb : Below W.heap.size W W') : Own W' g zs := blk_of hb h (lt_of h)

theorem ins_ne {W : World} {g b o : Nat} {zs : List Int} {x : Ins} (h : Own W g zs) (hi : InsAt W b o x) : b ≠ g := by
  rintro rfl
  have h1 := hi.1
  rw [cell_of_row W _ _ _ _ _ h] at h1
  simp at h1

theorem code_kept {W : World} {g : Nat} {zs : List Int} {S : Value} {X : List Ins} (h : Own W g zs) (hc : CodeAt W S X) (i : Nat) (v : Value) : CodeAt (W.setCell ⟨g, i, none⟩ v) S X := by
  obtain ⟨ao, cap, h1, h2, h3⟩ := hc
  refine ⟨ao, cap, h1, h2, fun hn => ?_⟩
  obtain ⟨b, off, h4, h5⟩ := h3 hn
  refine ⟨b, off, h4, fun j x hj => ?_⟩
  have hi := h5 j x hj
  have hne := ins_ne h hi
  have e := fun k => cs_blkk (w := W) (Ne.symm hne) i k v
  constructor <;> first | (rw [e]; first | exact hi.1 | exact hi.2 | exact hi.3 | exact hi.4 | exact hi.5 | exact hi.6 | exact hi.7 | exact hi.8)

/-- The law's list, and what is kept of one pair of answers. -/
structure Lst (w W : World) (zs : List Int) (r1 r2 : Nat) (n : ByteArray) (a : Int) (S1 S2 : Value) (X : List Ins) : Prop where
  own : Own W w.heap.size zs
  hb : Below w.heap.size w W
  b1 : W.heap[r1]? = some (po n a S1)
  b2 : W.heap[r2]? = some (po n a S2)
  c1 : CodeAt W S1 X
  c2 : CodeAt W S2 X
  ne : w.heap.size ≠ r1 ∧ w.heap.size ≠ r2

theorem Lst.below {w W W' : World} {zs : List Int} {r1 r2 : Nat} {n : ByteArray} {a : Int} {S1 S2 : Value} {X : List Ins} (h : Lst w W zs r1 r2 n a S1 S2 X) (hb : Below W.heap.size W W') : Lst w W' zs r1 r2 n a S1 S2 X :=
  ⟨own_below h.own hb, below_on h.hb hb, blk_of hb h.b1 (lt_of h.b1), blk_of hb h.b2 (lt_of h.b2), h.c1.below hb, h.c2.below hb, h.ne⟩

theorem Lst.set {w W : World} {zs : List Int} {r1 r2 : Nat} {n : ByteArray} {a : Int} {S1 S2 : Value} {X : List Ins} (h : Lst w W zs r1 r2 n a S1 S2 X) (i : Nat) (x : Int) : Lst w (W.setCell ⟨w.heap.size, i, none⟩ (.int .u8 x)) (zs.set i x) r1 r2 n a S1 S2 X := by
  have k := (Kept.refl (fun k => k = w.heap.size) W).setCell (p := ⟨w.heap.size, i, none⟩) (fun _ => rfl) (.int .u8 x)
  refine ⟨own_set h.own, ?_, (k.block _ (lt_of h.b1) (Ne.symm h.ne.1)).trans h.b1, (k.block _ (lt_of h.b2) (Ne.symm h.ne.2)).trans h.b2, code_kept h.own h.c1 _ _, code_kept h.own h.c2 _ _, h.ne⟩
  exact h.hb.trans (k.below h.hb.size (fun k hk e => by omega))

end Go.Proofs.YtdnlfacfleemeaaGreat
