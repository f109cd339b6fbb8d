import Derived.Test.YtljfmbjibjoiiaaK21
import Derived.Test.YtljfmbjibjoiiaaK25
import Derived.Test.YtljfmbjibjoiiaaK17
namespace Go.Proofs.Ytljfmbjibjoiiaa
open Go.RowKit Go.Lib

/-- Behind the twin: the law's blocks, the twin's list with its marks. -/
structure Ckt (w W : World) (nm : ByteArray) (ar : Int) (S : Value) (x : Ins) (r g cap : Nat) (xs : List Ins) : Prop where
  st : Bst w W nm ar S x
  t : W.heap[r]? = some (po nm ar (.slice (some ⟨g, 0, none⟩) xs.length cap))
  co : CodeAt W S xs
  at_ : ∀ (j : Nat) (y : Ins), (xs ++ marks)[j]? = some y → InsAt W g (j * 8) y
  blk : ∃ cur, W.heap[g]? = some (.cells cur 28 (0, 0))
  new : w.heap.size + 1 < g ∧ w.heap.size + 1 < r ∧ g ≠ r

theorem Ckt.below {w W W' : World} {nm : ByteArray} {ar : Int} {S : Value} {x : Ins} {r g cap : Nat} {xs : List Ins} (h : Ckt w W nm ar S x r g cap xs) (hb : Below W.heap.size W W') : Ckt w W' nm ar S x r g cap xs := by
  obtain ⟨cur, hc⟩ := h.blk
  exact ⟨h.st.below hb, blk_of hb h.t (lt_of h.t), h.co.below hb, fun j y hy => (h.at_ j y hy).same (hb.block g (h.at_ j y hy).lt), ⟨cur, blk_of hb hc (lt_of hc)⟩, h.new⟩

theorem ckt_start {w W w1 : World} {nm : ByteArray} {ar : Int} {S : Value} {x : Ins} {g cap : Nat} {xs : List Ins} {cur : Array Value} (h : Bst w W nm ar S x) (hs : CodeAt W S xs) (hg : W.heap.size ≤ g) (hk : w1.heap[g]? = some (.cells cur 28 (0, 0)))
    (ha : ∀ (j : Nat) (y : Ins), (xs ++ marks)[j]? = some y → InsAt w1 g (j * 8) y) (hb : Below W.heap.size W w1) : Ckt w (w1.alloc (po nm ar (.slice (some ⟨g, 0, none⟩) xs.length cap))) nm ar S x w1.heap.size g cap xs := by
  have hb2 := below_on hb (below1 w1 (po nm ar (.slice (some ⟨g, 0, none⟩) xs.length cap)))
  have hl := lt_of h.r1
  have hl2 := lt_of hk
  have hl3 := hb.size
  exact ⟨h.below hb2, heap_alloc_new w1 _, hs.below hb2, fun j y hy => (ha j y hy).same ((below1 w1 _).block g (ha j y hy).lt), ⟨cur, blk_of (below1 w1 _) hk hl2⟩, by omega, by omega, by omega⟩

theorem Ckt.code {w W : World} {nm : ByteArray} {ar : Int} {S : Value} {x : Ins} {r g cap : Nat} {xs : List Ins} (h : Ckt w W nm ar S x r g cap xs) (hcap : xs.length ≤ cap) : CodeAt W (.slice (some ⟨g, 0, none⟩) xs.length cap) xs := tw_code hcap h.at_

/-- Behind the store. -/
structure Ck2 (w W : World) (nm : ByteArray) (ar : Int) (r : Nat) (S2 : Value) (ys : List Ins) : Prop where
  t : W.heap[r]? = some (po nm ar S2)
  co : CodeAt W S2 ys
  hb : Below w.heap.size w W

theorem Ck2.below {w W W' : World} {nm : ByteArray} {ar : Int} {r : Nat} {S2 : Value} {ys : List Ins} (h : Ck2 w W nm ar r S2 ys) (hb : Below W.heap.size W W') : Ck2 w W' nm ar r S2 ys :=
  ⟨blk_of hb h.t (lt_of h.t), h.co.below hb, below_on h.hb hb⟩

theorem ck2_start {w W : World} {nm : ByteArray} {ar : Int} {S : Value} {x : Ins} {r g cap cN : Nat} {xs : List Ins} (h : Ckt w W nm ar S x r g cap xs) (hcap : xs.length ≤ cap) (hlt : cN < xs.length) :
    Ck2 w (put8 W g (cN * 8) x) nm ar r (.slice (some ⟨g, 0, none⟩) xs.length cap) (xs.set cN x) := by
  have k := put8_kept W g (cN * 8) x
  refine ⟨(k.block _ (lt_of h.t) h.new.2.2.symm).trans h.t, put8_code hcap (fun j y hy => h.at_ j y (by rw [List.getElem?_append_left (List.getElem?_eq_some_iff.1 hy).1]; exact hy)) hlt, h.st.hb.trans (k.below h.st.hb.size (fun q hq e => by have := h.new.1; omega))⟩

set_option maxRecDepth 100000 in
set_option maxHeartbeats 8000000 in
theorem checks_ok (nm : ByteArray) (ar : Int) (S : Value) (xs : List Ins) (x : Ins) (i : Int) (w : World) (h : Rf w 8 S xs.length (xs.flatMap Ins.cells)) (hl : (xs.length : Int) ≤ 65536) :
    Calls Try.prog 3 #[.agg #[.string nm, .int .i64 ar, S], x.val, .int .i64 i] w fun x w' => x = .returned (.bool true) ∧ Below w.heap.size w w' := by
  obtain ⟨E1, E, hR⟩ : ∃ R1 R2, procChk nm ar xs = (R1, R2) := ⟨_, _, rfl⟩
  have HC := hid (fun S W hW => pcheck_any nm ar S xs W hW (by omega))
  have HD := hid (fun S W hW => rpcheck_any nm ar S xs W hW (by omega))
  rw [hR] at HC HD
  dsimp only at HC HD
  have HH := hid (code_of_rf h)
  have HRF := hid h
  have HTW := hid (fun W hW => twin_any nm ar S xs W hW hl)
  unfold TwPost at HTW
  obtain ⟨ao, cap, rfl, _, _⟩ := h.shape
  have H0 := hid (bst_start w nm ar (.slice ao xs.length cap) x)
  unfold Ins.val
  clear h hR
  go_enter Try.func3, Try.ntmps3
  go_upto_region 8 with (first
    | (go_at_call 9
       refine (HTW.out _ (HRF.out.below H0.out.hb)).mono ?_
       rintro e w1 ⟨g, c1, cur, rfl, hc1, hg1, hblk1, hco1, hb1⟩
       have H1 := hid (ckt_start (cap := c1) H0.out (HH.out.below H0.out.hb) hg1 hblk1 hco1 hb1)
       have hc1' : (xs.length : Int) + 9 ≤ (c1 : Int) := by omega
       obtain ⟨p0, p1', p2', -⟩ := vfacts H1.out.st.r0
       obtain ⟨t0, t1, t2, -⟩ := vfacts H1.out.t
       clear hc1 hg1 hblk1 hco1 hb1)
    | (go_at_call 10
       refine (HC.out _ _ (H1.out.code (by omega))).mono ?_
       rintro e w2 ⟨rfl, hb2⟩
       have H2 := hid (H1.out.below hb2)
       obtain ⟨p0, p1', p2', -⟩ := vfacts H2.out.st.r0
       obtain ⟨t0, t1, t2, -⟩ := vfacts H2.out.t
       clear hb2)
    | (go_at_call 11
       refine (HD.out _ _ H2.out.co).mono ?_
       rintro e w3 ⟨rfl, hb3⟩
       have H3 := hid (H2.out.below hb3)
       obtain ⟨p0, p1', p2', -⟩ := vfacts H3.out.st.r0
       obtain ⟨t0, t1, t2, -⟩ := vfacts H3.out.t
       clear hb3)
    | (go_at_call 12
       refine (stands_any nm ar g c1 _ xs w3 (by omega) H3.out.at_ H3.out.co hl).mono ?_
       rintro e w4 ⟨rfl, hb4⟩
       have H4 := hid (H3.out.below hb4)
       obtain ⟨p0, p1', p2', -⟩ := vfacts H4.out.st.r0
       obtain ⟨t0, t1, t2, -⟩ := vfacts H4.out.t
       clear hb4))
  clear H0 H1 H2 H3 HC HD HTW
  by_cases hnil : xs = []
  · subst hnil
    go_wp2_with (first
      | (go_at_call 13
         refine (known_any _).mono ?_
         rintro e w5 ⟨rfl, hb5⟩
         have H5 := hid (below_on H4.out.st.hb hb5)
         clear hb5))
    go_ret
    exact ⟨rfl, H5.out⟩
  have hpos : 0 < xs.length := List.length_pos_iff.2 hnil
  have hpos' : (0 : Int) < (xs.length : Int) := by omega
  have hz0 : ((xs.length : Int) == 0) = false := by simp; exact hnil
  have htb : -(xs.length : Int) < i.tmod xs.length ∧ i.tmod xs.length < xs.length := by
    have h1 : (i.tmod xs.length).natAbs < xs.length := by
      rw [Int.natAbs_tmod]
      exact Nat.mod_lt _ hpos
    omega
  have HTB := hid htb
  clear htb hnil
  by_cases hneg : i.tmod xs.length < 0
  · obtain ⟨cN, hwr, hcN⟩ : ∃ c : Nat, wrap64 (i.tmod xs.length + xs.length) = c ∧ c < xs.length := by
      have := HTB.out
      refine ⟨(i.tmod xs.length + xs.length).toNat, ?_, by omega⟩
      unfold wrap64
      omega
    have HWR := hid hwr
    clear hwr
    go_upto_region 13 with fail
    rw [HWR.out]
    clear hneg
    obtain ⟨y, hy⟩ : ∃ y, xs[cN]? = some y := ⟨_, List.getElem?_eq_getElem hcN⟩
    obtain ⟨x0, x1, x2, x3, x4, x5, x6, x7, -⟩ := vfacts8 H4.out.st.r1
    obtain ⟨y0, y1, y2, y3, y4, y5, y6, y7⟩ := H4.out.at_ cN y (by rw [List.getElem?_append_left hcN]; exact hy)
    obtain ⟨cur, hcur⟩ := H4.out.blk
    have gz : ∀ q, w4.frozen? ⟨g, q, none⟩ = false := fun q => by simp [World.frozen?, hcur]
    have kg := lt_of hcur
    have hcc : (cN : Int) < (xs.length : Int) := by omega
    clear hy hcur
    go_upto_region 14 with fail
    refine cutG (fun W => Ck2 w W nm ar w1.heap.size (.slice (some ⟨g, 0, none⟩) xs.length c1) (xs.set cN x)) (ck2_start H4.out (by omega) hcN) ?_
    intro W0 H6
    have H6 := hid H6
    obtain ⟨t0, t1, t2, -⟩ := vfacts H6.out.t
    obtain ⟨F1, F, hF⟩ : ∃ R1 R2, procChk nm ar (xs.set cN x) = (R1, R2) := ⟨_, _, rfl⟩
    have HC2 := hid (fun S W hW => pcheck_any nm ar S (xs.set cN x) W hW (by rw [List.length_set]; omega))
    have HD2 := hid (fun S W hW => rpcheck_any nm ar S (xs.set cN x) W hW (by rw [List.length_set]; omega))
    rw [hF] at HC2 HD2
    dsimp only at HC2 HD2
    clear hF H4 x0 x1 x2 x3 x4 x5 x6 x7 y0 y1 y2 y3 y4 y5 y6 y7 gz kg
    go_wp2_with (first
      | (go_at_call 10
         refine (HC2.out _ _ H6.out.co).mono ?_
         rintro e w7 ⟨rfl, hb7⟩
         have H7 := hid (H6.out.below hb7)
         obtain ⟨t0, t1, t2, -⟩ := vfacts H7.out.t
         clear hb7)
      | (go_at_call 11
         refine (HD2.out _ _ H7.out.co).mono ?_
         rintro e w8 ⟨rfl, hb8⟩
         have H8 := hid (H7.out.below hb8)
         clear hb8)
      | (go_at_call 13
         refine (known_any _).mono ?_
         rintro e w9 ⟨rfl, hb9⟩
         have H9 := hid (below_on H8.out.hb hb9)
         clear hb9))
    go_ret
    exact ⟨rfl, H9.out⟩
  · obtain ⟨cN, hwr, hcN⟩ : ∃ c : Nat, i.tmod xs.length = c ∧ c < xs.length := by
      have := HTB.out
      exact ⟨(i.tmod xs.length).toNat, by omega, by omega⟩
    have HWR := hid hwr
    clear hwr
    go_upto_region 13 with fail
    rw [HWR.out]
    clear hneg
    obtain ⟨y, hy⟩ : ∃ y, xs[cN]? = some y := ⟨_, List.getElem?_eq_getElem hcN⟩
    obtain ⟨x0, x1, x2, x3, x4, x5, x6, x7, -⟩ := vfacts8 H4.out.st.r1
    obtain ⟨y0, y1, y2, y3, y4, y5, y6, y7⟩ := H4.out.at_ cN y (by rw [List.getElem?_append_left hcN]; exact hy)
    obtain ⟨cur, hcur⟩ := H4.out.blk
    have gz : ∀ q, w4.frozen? ⟨g, q, none⟩ = false := fun q => by simp [World.frozen?, hcur]
    have kg := lt_of hcur
    have hcc : (cN : Int) < (xs.length : Int) := by omega
    clear hy hcur
    go_upto_region 14 with fail
    refine cutG (fun W => Ck2 w W nm ar w1.heap.size (.slice (some ⟨g, 0, none⟩) xs.length c1) (xs.set cN x)) (ck2_start H4.out (by omega) hcN) ?_
    intro W0 H6
    have H6 := hid H6
    obtain ⟨t0, t1, t2, -⟩ := vfacts H6.out.t
    obtain ⟨F1, F, hF⟩ : ∃ R1 R2, procChk nm ar (xs.set cN x) = (R1, R2) := ⟨_, _, rfl⟩
    have HC2 := hid (fun S W hW => pcheck_any nm ar S (xs.set cN x) W hW (by rw [List.length_set]; omega))
    have HD2 := hid (fun S W hW => rpcheck_any nm ar S (xs.set cN x) W hW (by rw [List.length_set]; omega))
    rw [hF] at HC2 HD2
    dsimp only at HC2 HD2
    clear hF H4 x0 x1 x2 x3 x4 x5 x6 x7 y0 y1 y2 y3 y4 y5 y6 y7 gz kg
    go_wp2_with (first
      | (go_at_call 10
         refine (HC2.out _ _ H6.out.co).mono ?_
         rintro e w7 ⟨rfl, hb7⟩
         have H7 := hid (H6.out.below hb7)
         obtain ⟨t0, t1, t2, -⟩ := vfacts H7.out.t
         clear hb7)
      | (go_at_call 11
         refine (HD2.out _ _ H7.out.co).mono ?_
         rintro e w8 ⟨rfl, hb8⟩
         have H8 := hid (H7.out.below hb8)
         clear hb8)
      | (go_at_call 13
         refine (known_any _).mono ?_
         rintro e w9 ⟨rfl, hb9⟩
         have H9 := hid (below_on H8.out.hb hb9)
         clear hb9))
    go_ret
    exact ⟨rfl, H9.out⟩

end Go.Proofs.Ytljfmbjibjoiiaa

namespace Go.Proofs.Ytljfmbjibjoiiaa
open Go.RowKit Go.Lib

/-- What the document's Encode answers. -/
def RPEnc (nm : ByteArray) (ar : Int) (xs : List Ins) (w : World) (e : Ending) (w' : World) : Prop :=
  ((procChk nm ar xs).2 ≠ 0 ∧ e = .returned (.tuple #[.slice none 0 0, .int .i64 (procChk nm ar xs).2]) ∧ Below w.heap.size w w') ∨
  ((procChk nm ar xs).2 = 0 ∧ ∃ v, e = .returned (.tuple #[v, .int .i64 0]) ∧ Sn w' v (procB nm ar xs) ∧ Below w.heap.size w w')

set_option maxRecDepth 100000 in
set_option maxHeartbeats 4000000 in
theorem rpencode_no (nm : ByteArray) (ar : Int) (S : Value) (xs : List Ins) (w : World) (h : CodeAt w S xs) (hl : xs.length ≤ 1000000000) (hE : (procChk nm ar xs).2 ≠ 0) :
    Calls Try.prog 15 #[.agg #[.string nm, .int .i64 ar, S]] w (RPEnc nm ar xs w) := by
  obtain ⟨E1, E2, hR⟩ : ∃ R1 R2, procChk nm ar xs = (R1, R2) := ⟨_, _, rfl⟩
  have hc := rpcheck_any nm ar S xs
  rw [hR] at hc hE
  unfold RPEnc
  rw [hR]
  dsimp only at hc hE ⊢
  have HC := hid hc
  have HH := hid h
  have HE := hid hE
  obtain ⟨ao, cap, rfl, -, -⟩ := h
  have hB0 := hid (below1 w (po nm ar (.slice ao xs.length cap)))
  have he2 : (E2 == 0) = false := by simpa using hE
  have he3 : (E2 != 0) = true := by simpa using hE
  clear hc hR hE
  go_enter Try.func15, Try.ntmps15
  go_wp2_with (first
    | (go_at_call 11
       refine (HC.out _ (HH.out.below (below1 w _)) hl).mono ?_
       rintro e w1 ⟨rfl, hb1⟩
       have H1 := hid (below_on hB0.out hb1)
       clear hb1))
  go_ret2
  exact .inl ⟨HE.out, rfl, H1.out⟩

theorem flat_take_len {α β : Type} (f : α → List β) (l : List α) (m : Nat) : ((l.take m).flatMap f).length ≤ (l.flatMap f).length := by
  have h : l.flatMap f = (l.take m).flatMap f ++ (l.drop m).flatMap f := by rw [← List.flatMap_append, List.take_append_drop]
  rw [h, List.length_append]
  omega

theorem take_lt (x : Ins) (l : List Int) (m : Nat) (c : Int) (h : l[m]? = some c) : (l.take (m + 1)).flatMap (ltB x) = (l.take m).flatMap (ltB x) ++ ltB x c := by
  rw [List.take_add_one, h]
  simp

theorem ren_start {w w1 w2 : World} {nm : ByteArray} {ar : Int} {S v2 : Value} {bs : List Int} (h : w1.heap[w.heap.size]? = some (po nm ar S)) (hw : Below w.heap.size w w1) (hs : Sn w2 v2 bs) (hb : Below w1.heap.size w1 w2)
    (hn : v2 = .slice none 0 0 ∨ ∀ k, v2.ownBlock = some k → w1.heap.size ≤ k ∧ k < w2.heap.size) : Ren w (w2.alloc (.cells #[v2, .int .i64 0] 74)) nm ar S w2.heap.size v2 bs := by
  have hB := below1 w2 (.cells #[v2, .int .i64 0] 74)
  have h2 := blk_of hb h (lt_of h)
  exact ⟨blk_of hB h2 (lt_of h2), heap_alloc_new w2 _, hs.below hB, fun k hk => by have := new_blk hn k hk; omega, lt_of h2, below_on (below_on hw hb) hB⟩

set_option maxRecDepth 100000 in
set_option maxHeartbeats 8000000 in
theorem rpencode_ok (nm : ByteArray) (ar : Int) (S : Value) (xs : List Ins) (w : World) (h : CodeAt w S xs) (hi : ∀ x ∈ xs, InsOk x) (hE : (procChk nm ar xs).2 = 0) :
    Calls Try.prog 15 #[.agg #[.string nm, .int .i64 ar, S]] w (RPEnc nm ar xs w) := by
  obtain ⟨E1, E2, hR⟩ : ∃ R1 R2, procChk nm ar xs = (R1, R2) := ⟨_, _, rfl⟩
  have HG := hid (good_of hE)
  have hln := HG.out.len
  have hc := rpcheck_any nm ar S xs
  rw [hR] at hc hE
  unfold RPEnc
  rw [hR]
  dsimp only at hc hE ⊢
  subst hE
  have HC := hid hc
  have HH := hid h
  have HI := hid hi
  obtain ⟨ao, cap, rfl, hcap, hcells⟩ := h
  have HX := hid hcells
  have hB0 := hid (below1 w (po nm ar (.slice ao xs.length cap)))
  have hR0 := hid (heap_alloc_new w (po nm ar (.slice ao xs.length cap)))
  have hcap' : (xs.length : Int) ≤ (cap : Int) := by omega
  have hln' : (xs.length : Int) ≤ 64 := by omega
  have HA := hid (And.intro HG.out.a0 (And.intro HG.out.a1 HG.out.size))
  clear hc hR hi hcells
  go_enter Try.func15, Try.ntmps15
  go_upto_region 5 with (first
    | (go_at_call 11
       refine (HC.out _ (HH.out.below (below1 w _)) (by omega)).mono ?_
       rintro e w1 ⟨rfl, hb1⟩
       have g1 := blk_of hb1 hR0.out (by simp)
       obtain ⟨p0, p1, p2, -⟩ := vfacts g1
       have H1 := hid (And.intro g1 (below_on hB0.out hb1))
       clear hb1 g1)
    | (go_at_call 32
       refine (wt0 _ [] nm _ (sn_nil _) (by simp) (by have := HA.out.2.2; omega)).mono ?_
       rintro e w2 ⟨v2, rfl, hs2, hb2, hn2⟩
       obtain ⟨bs2, hbs2⟩ : ∃ bs, bs = [] ++ (rowF 10 (strBs nm).length ++ strBs nm) := ⟨_, rfl⟩
       rw [← hbs2] at hs2
       have HB2 := hid hbs2
       obtain ⟨ao2, cc2, hv2⟩ := hs2.form
       rw [hv2] at hs2 hn2 ⊢
       have H2 := hid (ren_start H1.out.1 H1.out.2 hs2 hb2 hn2)
       clear hb2 hs2 hv2 hn2 hbs2))
  clear H1 hB0 hR0 HC
  refine cutG (fun W => Ren w W nm ar (.slice ao xs.length cap) w2.heap.size (.slice ao2 bs2.length cc2) bs2) H2.out ?_
  intro W4 H4
  generalize w2.heap.size = r at H4 ⊢
  have hln4 : bs2.length ≤ 100 := by
    rw [HB2.out]
    have := rowF_le 10 (strBs nm).length
    have := HA.out.2.2
    have := strBs_len nm
    simp only [List.nil_append, List.length_append]
    omega
  have H4 := hid H4
  clear H2
  obtain ⟨p0, p1, p2, -⟩ := vfacts H4.out.r0
  obtain ⟨q0, q1, fq⟩ := vfacts2 H4.out.rw
  have nl := H4.out.lt
  go_upto_region 6 with (first
    | (go_at_call 33
       refine (wn0 _ bs2 ar _ H4.out.sn (by omega) HA.out.1 (by have := HA.out.2.1; omega)).mono ?_
       rintro e w3 ⟨v3, rfl, hs3, hb3, hn3⟩
       obtain ⟨bs3, hbs3⟩ : ∃ bs, bs = bs2 ++ rowF 10 ar := ⟨_, rfl⟩
       rw [← hbs3] at hs3
       have HB3 := hid hbs3
       obtain ⟨ao3, cc3, hv3⟩ := hs3.form
       rw [hv3] at hs3 hn3 ⊢
       have g3 := H4.out.below hb3
       obtain ⟨q0, q1, fq⟩ := vfacts2 g3.rw
       have H3 := hid (H4.out.put hs3 hb3 hn3)
       clear hb3 hs3 hv3 hn3 g3 hbs3))
  refine cutG (fun W => Ren w W nm ar (.slice ao xs.length cap) r (.slice ao3 bs3.length cc3) bs3) H3.out ?_
  intro W5 H5
  have H5 := hid H5
  have hln5 : bs3.length ≤ 200 := by
    rw [HB3.out, List.length_append]
    have := rowF_le 10 ar
    omega
  clear H3 H4 q0 q1 fq p0 p1 p2
  obtain ⟨p0, p1, p2, -⟩ := vfacts H5.out.r0
  obtain ⟨q0, q1, fq⟩ := vfacts2 H5.out.rw
  go_upto_region 7 with (first
    | (go_at_call 33
       refine (wn0 _ bs3 (xs.length : Int) _ H5.out.sn (by omega) (by omega) (by omega)).mono ?_
       rintro e w3 ⟨v3, rfl, hs3, hb3, hn3⟩
       obtain ⟨bs4, hbs4⟩ : ∃ bs, bs = bs3 ++ rowF 10 (xs.length : Int) := ⟨_, rfl⟩
       rw [← hbs4] at hs3
       have HB4 := hid hbs4
       obtain ⟨ao4, cc4, hv3⟩ := hs3.form
       rw [hv3] at hs3 hn3 ⊢
       have g3 := H5.out.below hb3
       obtain ⟨q0, q1, fq⟩ := vfacts2 g3.rw
       have H6 := hid (H5.out.put hs3 hb3 hn3)
       clear hb3 hs3 hv3 hn3 g3 hbs4))
  refine cutG (fun W => Ren w W nm ar (.slice ao xs.length cap) r (.slice ao4 bs4.length cc4) bs4) H6.out ?_
  intro W6 H7
  have H7 := hid H7
  have hln6 : bs4.length ≤ 300 := by
    rw [HB4.out, List.length_append]
    have := rowF_le 10 (xs.length : Int)
    omega
  clear H6 H5 q0 q1 fq p0 p1 p2
  obtain ⟨p0, p1, p2, -⟩ := vfacts H7.out.r0
  obtain ⟨q0, q1, fq⟩ := vfacts2 H7.out.rw
  go_wp2
  go_loopw [7] (fun ix wr => ∃ (n : Nat) (ao5 : Option Addr) (c5 : Nat) (bs : List Int), n ≤ xs.length ∧ ix = .int .i64 n ∧ Hid (bs = bs4 ++ (xs.take n).flatMap insBx) ∧ Hid (Ren w wr nm ar (.slice ao xs.length cap) r (.slice ao5 bs.length c5) bs)) (fun ix _ => xs.length - (intOf ix).toNat)
  case atStart => exact ⟨0, ao4, cc4, bs4, Nat.zero_le _, rfl, hid (by simp), H7⟩
  case round =>
    clear H7 p0 p1 p2 q0 q1 fq
    obtain ⟨n, ao5, c5, bs, hn, rfl, hbs, hT⟩ := hrel
    obtain ⟨p0, p1, p2, -⟩ := vfacts hT.out.r0
    by_cases hlt : n < xs.length
    · obtain ⟨x, hx⟩ : ∃ x, xs[n]? = some x := ⟨_, List.getElem?_eq_getElem hlt⟩
      obtain ⟨b, off, rfl, hat⟩ := HX.out (by intro e; rw [e] at hlt; simp at hlt)
      have hat := hat n x hx
      obtain ⟨c0, c1, c2, c3, c4, c5', c6, c7⟩ := hat.same (hT.out.hb.block b hat.lt)
      have HGX := hid (HG.out.at hx)
      have HIX := hid (HI.out x (List.mem_of_getElem? hx))
      have hlt' : (n : Int) < (xs.length : Int) := by omega
      obtain ⟨q0, q1, fq⟩ := vfacts2 hT.out.rw
      have m1 := lt_of hT.out.r0
      have m2 := World.new_ne wr ⟨b, off + n * 8, none⟩ c0
      have m3 := lt_of hT.out.rw
      have hu : IntKind.u8.wrap x.op = x.op := by
        have := HGX.out.1
        rw [IntKind.wrap_u8]
        omega
      have hlen : bs.length ≤ 100000000 := by
        rw [hbs.out, List.length_append]
        have h1 := code_len (xs.take n) (fun y hy => insBx_len y (by obtain ⟨j, hj⟩ := List.getElem?_of_mem (List.mem_of_mem_take hy); exact (HG.out.at hj).2.2) (HI.out y (List.mem_of_mem_take hy)))
        have h2 : (xs.take n).length ≤ 64 := by rw [List.length_take]; omega
        have h3 : 1002000 * (xs.take n).length ≤ 1002000 * 64 := Nat.mul_le_mul_left _ h2
        omega
      have HX0 := hid hx
      clear hat hx
      go_upto_region 12 with (first
        | (go_at_call 34
           refine (wb0 _ bs x.op _ (hT.out.sn.below (below1 wr _)) (by omega)).mono ?_
           rintro e w7 ⟨v7, rfl, hs7, hb7, hn7⟩
           obtain ⟨bs7, hbs7⟩ : ∃ bs', bs' = bs ++ [x.op] := ⟨_, rfl⟩
           rw [← hbs7] at hs7
           have HB7 := hid hbs7
           obtain ⟨ao7, cc7, hv7⟩ := hs7.form
           rw [hv7] at hs7 hn7 ⊢
           have g7 := (hT.out.below (below1 wr _)).below hb7
           obtain ⟨q0, q1, fq⟩ := vfacts2 g7.rw
           have H7 := hid (And.intro ((hT.out.below (below1 wr _)).put hs7 hb7 hn7) (put_other (heap_alloc_new wr _) hb7 (Nat.ne_of_gt m3) (.slice ao7 bs7.length cc7)))
           clear hb7 hs7 hv7 hn7 g7 hbs7))
      refine cutG (fun W => Ren w W nm ar (.slice (some ⟨b, off, none⟩) xs.length cap) r (.slice ao7 bs7.length cc7) bs7 ∧ W.heap[wr.heap.size]? = some (io x.op x.a x.b x.c x.n x.k x.i x.t)) H7.out ?_
      intro W7 H8
      have hrx : wr.heap.size ≠ r := Nat.ne_of_gt m3
      clear c0 c1 c2 c3 c4 c5' c6 c7 m1 m2 m3 p0 p1 p2 q0 q1 fq H7 hu
      generalize wr.heap.size = rx at H8 hrx ⊢
      have H8 := hid H8
      obtain ⟨x0, x1, x2, x3, x4, x5, x6, x7, -⟩ := vfacts8 H8.out.2
      have LT := hid (lts_of x HGX.out.1 HGX.out.2.1)
      have HLB := hid (ltB_all x HGX.out.1)
      have HF := hid (rfields_any x.op)
      have hLs := fdS_len x.op
      have HLO := LT.out.of
      have HLT := hid (And.intro LT.out.a (And.intro LT.out.b (And.intro LT.out.c LT.out.n)))
      have hbl7 : bs7.length ≤ 100000001 := by rw [HB7.out, List.length_append]; simp; omega
      generalize hL : fdS x.op = L at HF hLs HLB HLO
      have HL := hid hL
      have HLO := hid HLO
      clear hL hlen
      go_wp2_with (first
        | (go_at_call 35
           refine (HF.out _).mono ?_
           rintro e w' ⟨rfl, e1⟩
           rw [e1]
           clear e1 w'))
      go_loopw [10] (fun kx wq => ∃ (m : Nat) (ao8 : Option Addr) (c8 : Nat) (bs8 : List Int), m ≤ L.size ∧ kx = .int .i64 m ∧ Hid (bs8 = bs7 ++ ((strBs L).take m).flatMap (ltB x)) ∧ Hid (Ren w wq nm ar (.slice (some ⟨b, off, none⟩) xs.length cap) r (.slice ao8 bs8.length c8) bs8 ∧ wq.heap[rx]? = some (io x.op x.a x.b x.c x.n x.k x.i x.t))) (fun kx _ => L.size - (intOf kx).toNat)
      case atStart => exact ⟨0, ao7, cc7, bs7, Nat.zero_le _, rfl, hid (by simp), H8⟩
      clear H8 x0 x1 x2 x3 x4 x5 x6 x7
      obtain ⟨m, ao8, c8, bs8, hml, rfl, HB8, hQ⟩ := hrel
      by_cases hm : m < L.size
      · obtain ⟨a1, ha1⟩ : ∃ a1 : UInt8, a1 = L[m]'hm := ⟨_, rfl⟩
        have HAT := hid (strBs_at L m hm)
        rw [← ha1] at HAT
        obtain ⟨x0, x1, x2, x3, x4, x5, x6, x7, -⟩ := vfacts8 hQ.out.2
        obtain ⟨q0, q1, fq⟩ := vfacts2 hQ.out.1.rw
        have hl8 : bs8.length ≤ 200000000 := by
          rw [HB8.out, List.length_append]
          have h1 := flat_take_len (ltB x) (strBs L) m
          have h2 := insBx_len x HGX.out.2.2 HIX.out
          rw [← HLB.out, List.length_append] at h2
          omega
        rcases HLO.out _ (List.mem_of_getElem? HAT.out) with hc | hc | hc | hc | hc | hc
        · skip
          have hbd : 0 ≤ x.a ∧ x.a < 256 := LT.out.a (.inl (by rw [HL.out]; exact List.mem_of_getElem? (hc ▸ HAT.out)))
          have hu : IntKind.u8.wrap x.a = x.a := by rw [IntKind.wrap_u8]; omega
          have e65 : (((L[m]'hm).toNat : Int) == 65) = true := by rw [← ha1, hc]; rfl
          have HEQ : Hid (ltB x (a1.toNat : Int) = [x.a]) := hid (by rw [hc]; rfl)
          have HBD := hid hbd
          clear hc hbd
          subst ha1
          go_wp2_with (first
            | (go_at_call 34
               refine (wb0 _ bs8 x.a _ hQ.out.1.sn (by omega)).mono ?_
               rintro e w9 ⟨v9, rfl, hs9, hb9, hn9⟩
               obtain ⟨bs9, hbs9⟩ : ∃ bs', bs' = bs8 ++ [x.a] := ⟨_, rfl⟩
               rw [← hbs9] at hs9
               have HB9 := hid hbs9
               obtain ⟨ao9, cc9, hv9⟩ := hs9.form
               rw [hv9] at hs9 hn9 ⊢
               have g9 := hQ.out.1.below hb9
               obtain ⟨q0, q1, fq⟩ := vfacts2 g9.rw
               have H9 := hid (And.intro (hQ.out.1.put hs9 hb9 hn9) (put_other hQ.out.2 hb9 hrx (.slice ao9 bs9.length cc9)))
               clear hb9 hs9 hv9 hn9 g9 hbs9))
          go_roundw
          case rel => exact ⟨m + 1, ao9, cc9, bs9, by omega, by go_num, hid (by rw [HB9.out, HB8.out, take_lt x _ m _ HAT.out, List.append_assoc]; rw [HEQ.out]), H9⟩
          case measure => simp [intOf]; omega
        · skip
          have hbd : 0 ≤ x.b ∧ x.b < 256 := LT.out.b (by rw [HL.out]; exact List.mem_of_getElem? (hc ▸ HAT.out))
          have hu : IntKind.u8.wrap x.b = x.b := by rw [IntKind.wrap_u8]; omega
          have e65 : (((L[m]'hm).toNat : Int) == 65) = false := by rw [← ha1, hc]; rfl
          have e66 : (((L[m]'hm).toNat : Int) == 66) = true := by rw [← ha1, hc]; rfl
          have HEQ : Hid (ltB x (a1.toNat : Int) = [x.b]) := hid (by rw [hc]; rfl)
          have HBD := hid hbd
          clear hc hbd
          subst ha1
          go_wp2_with (first
            | (go_at_call 34
               refine (wb0 _ bs8 x.b _ hQ.out.1.sn (by omega)).mono ?_
               rintro e w9 ⟨v9, rfl, hs9, hb9, hn9⟩
               obtain ⟨bs9, hbs9⟩ : ∃ bs', bs' = bs8 ++ [x.b] := ⟨_, rfl⟩
               rw [← hbs9] at hs9
               have HB9 := hid hbs9
               obtain ⟨ao9, cc9, hv9⟩ := hs9.form
               rw [hv9] at hs9 hn9 ⊢
               have g9 := hQ.out.1.below hb9
               obtain ⟨q0, q1, fq⟩ := vfacts2 g9.rw
               have H9 := hid (And.intro (hQ.out.1.put hs9 hb9 hn9) (put_other hQ.out.2 hb9 hrx (.slice ao9 bs9.length cc9)))
               clear hb9 hs9 hv9 hn9 g9 hbs9))
          go_roundw
          case rel => exact ⟨m + 1, ao9, cc9, bs9, by omega, by go_num, hid (by rw [HB9.out, HB8.out, take_lt x _ m _ HAT.out, List.append_assoc]; rw [HEQ.out]), H9⟩
          case measure => simp [intOf]; omega
        · skip
          have hbd : 0 ≤ x.c ∧ x.c < 256 := LT.out.c (by rw [HL.out]; exact List.mem_of_getElem? (hc ▸ HAT.out))
          have hu : IntKind.u8.wrap x.c = x.c := by rw [IntKind.wrap_u8]; omega
          have e65 : (((L[m]'hm).toNat : Int) == 65) = false := by rw [← ha1, hc]; rfl
          have e66 : (((L[m]'hm).toNat : Int) == 66) = false := by rw [← ha1, hc]; rfl
          have e67 : (((L[m]'hm).toNat : Int) == 67) = true := by rw [← ha1, hc]; rfl
          have HEQ : Hid (ltB x (a1.toNat : Int) = [x.c]) := hid (by rw [hc]; rfl)
          have HBD := hid hbd
          clear hc hbd
          subst ha1
          go_wp2_with (first
            | (go_at_call 34
               refine (wb0 _ bs8 x.c _ hQ.out.1.sn (by omega)).mono ?_
               rintro e w9 ⟨v9, rfl, hs9, hb9, hn9⟩
               obtain ⟨bs9, hbs9⟩ : ∃ bs', bs' = bs8 ++ [x.c] := ⟨_, rfl⟩
               rw [← hbs9] at hs9
               have HB9 := hid hbs9
               obtain ⟨ao9, cc9, hv9⟩ := hs9.form
               rw [hv9] at hs9 hn9 ⊢
               have g9 := hQ.out.1.below hb9
               obtain ⟨q0, q1, fq⟩ := vfacts2 g9.rw
               have H9 := hid (And.intro (hQ.out.1.put hs9 hb9 hn9) (put_other hQ.out.2 hb9 hrx (.slice ao9 bs9.length cc9)))
               clear hb9 hs9 hv9 hn9 g9 hbs9))
          go_roundw
          case rel => exact ⟨m + 1, ao9, cc9, bs9, by omega, by go_num, hid (by rw [HB9.out, HB8.out, take_lt x _ m _ HAT.out, List.append_assoc]; rw [HEQ.out]), H9⟩
          case measure => simp [intOf]; omega
        · skip
          have hbd : 0 ≤ x.a ∧ x.a < 256 := LT.out.a (.inr (by rw [HL.out]; exact List.mem_of_getElem? (hc ▸ HAT.out)))
          have e65 : (((L[m]'hm).toNat : Int) == 65) = false := by rw [← ha1, hc]; rfl
          have e66 : (((L[m]'hm).toNat : Int) == 66) = false := by rw [← ha1, hc]; rfl
          have e67 : (((L[m]'hm).toNat : Int) == 67) = false := by rw [← ha1, hc]; rfl
          have e97 : (((L[m]'hm).toNat : Int) == 97) = true := by rw [← ha1, hc]; rfl
          have HEQ : Hid (ltB x (a1.toNat : Int) = rowF 10 x.a) := hid (by rw [hc]; rfl)
          have HBD := hid hbd
          clear hc hbd
          subst ha1
          go_wp2_with (first
            | (go_at_call 33
               refine (wn0 _ bs8 x.a _ hQ.out.1.sn (by omega) HBD.out.1 (by have := HBD.out.2; omega)).mono ?_
               rintro e w9 ⟨v9, rfl, hs9, hb9, hn9⟩
               obtain ⟨bs9, hbs9⟩ : ∃ bs', bs' = bs8 ++ rowF 10 x.a := ⟨_, rfl⟩
               rw [← hbs9] at hs9
               have HB9 := hid hbs9
               obtain ⟨ao9, cc9, hv9⟩ := hs9.form
               rw [hv9] at hs9 hn9 ⊢
               have g9 := hQ.out.1.below hb9
               obtain ⟨q0, q1, fq⟩ := vfacts2 g9.rw
               have H9 := hid (And.intro (hQ.out.1.put hs9 hb9 hn9) (put_other hQ.out.2 hb9 hrx (.slice ao9 bs9.length cc9)))
               clear hb9 hs9 hv9 hn9 g9 hbs9))
          go_roundw
          case rel => exact ⟨m + 1, ao9, cc9, bs9, by omega, by go_num, hid (by rw [HB9.out, HB8.out, take_lt x _ m _ HAT.out, List.append_assoc]; rw [HEQ.out]), H9⟩
          case measure => simp [intOf]; omega
        · skip
          have hbd : 0 ≤ x.n ∧ x.n < 256 := LT.out.n (by rw [HL.out]; exact List.mem_of_getElem? (hc ▸ HAT.out))
          have e65 : (((L[m]'hm).toNat : Int) == 65) = false := by rw [← ha1, hc]; rfl
          have e66 : (((L[m]'hm).toNat : Int) == 66) = false := by rw [← ha1, hc]; rfl
          have e67 : (((L[m]'hm).toNat : Int) == 67) = false := by rw [← ha1, hc]; rfl
          have e97 : (((L[m]'hm).toNat : Int) == 97) = false := by rw [← ha1, hc]; rfl
          have e78 : (((L[m]'hm).toNat : Int) == 78) = true := by rw [← ha1, hc]; rfl
          have HEQ : Hid (ltB x (a1.toNat : Int) = rowF 10 x.n) := hid (by rw [hc]; rfl)
          have HBD := hid hbd
          clear hc hbd
          subst ha1
          go_wp2_with (first
            | (go_at_call 33
               refine (wn0 _ bs8 x.n _ hQ.out.1.sn (by omega) HBD.out.1 (by have := HBD.out.2; omega)).mono ?_
               rintro e w9 ⟨v9, rfl, hs9, hb9, hn9⟩
               obtain ⟨bs9, hbs9⟩ : ∃ bs', bs' = bs8 ++ rowF 10 x.n := ⟨_, rfl⟩
               rw [← hbs9] at hs9
               have HB9 := hid hbs9
               obtain ⟨ao9, cc9, hv9⟩ := hs9.form
               rw [hv9] at hs9 hn9 ⊢
               have g9 := hQ.out.1.below hb9
               obtain ⟨q0, q1, fq⟩ := vfacts2 g9.rw
               have H9 := hid (And.intro (hQ.out.1.put hs9 hb9 hn9) (put_other hQ.out.2 hb9 hrx (.slice ao9 bs9.length cc9)))
               clear hb9 hs9 hv9 hn9 g9 hbs9))
          go_roundw
          case rel => exact ⟨m + 1, ao9, cc9, bs9, by omega, by go_num, hid (by rw [HB9.out, HB8.out, take_lt x _ m _ HAT.out, List.append_assoc]; rw [HEQ.out]), H9⟩
          case measure => simp [intOf]; omega
        · skip
          have e65 : (((L[m]'hm).toNat : Int) == 65) = false := by rw [← ha1, hc]; rfl
          have e66 : (((L[m]'hm).toNat : Int) == 66) = false := by rw [← ha1, hc]; rfl
          have e67 : (((L[m]'hm).toNat : Int) == 67) = false := by rw [← ha1, hc]; rfl
          have e97 : (((L[m]'hm).toNat : Int) == 97) = false := by rw [← ha1, hc]; rfl
          have e78 : (((L[m]'hm).toNat : Int) == 78) = false := by rw [← ha1, hc]; rfl
          have e86 : (((L[m]'hm).toNat : Int) == 86) = true := by rw [← ha1, hc]; rfl
          have HEQ : Hid (ltB x (a1.toNat : Int) = rowF 10 ((encB x.k x.i x.t).length : Nat) ++ encB x.k x.i x.t) := hid (by rw [hc]; rfl)
          have HQ := hid (encB_len x.k x.i x.t HGX.out.2.2 HIX.out.1 HIX.out.2)
          clear hc
          subst ha1
          go_wp2_with (first
            | (go_at_call 36
               refine (rencode_any x.k x.i x.t HIX.out.1 HIX.out.2 _).mono ?_
               rintro e w8 (⟨h8, -⟩ | ⟨-, v8, rfl, hs8, hb8, -⟩)
               · exact absurd HGX.out.2.2 h8
               have hst := sl_string hs8.1
               have H8 := hid (And.intro (hQ.out.1.below hb8) (blk_of hb8 hQ.out.2 (lt_of hQ.out.2)))
               obtain ⟨q0, q1, fq⟩ := vfacts2 H8.out.1.rw
               clear hb8 hs8)
            | (go_at_call 32
               refine (wt0 _ bs8 (mkStr (encB x.k x.i x.t)) _ H8.out.1.sn (by omega) (by rw [mkStr_size]; have := HQ.out.1; omega)).mono ?_
               rintro e w9 ⟨v9, rfl, hs9, hb9, hn9⟩
               obtain ⟨bs9, hbs9⟩ : ∃ bs', bs' = bs8 ++ (rowF 10 (strBs (mkStr (encB x.k x.i x.t))).length ++ strBs (mkStr (encB x.k x.i x.t))) := ⟨_, rfl⟩
               rw [← hbs9] at hs9
               have HB9 := hid hbs9
               obtain ⟨ao9, cc9, hv9⟩ := hs9.form
               rw [hv9] at hs9 hn9 ⊢
               have g9 := H8.out.1.below hb9
               obtain ⟨q0, q1, fq⟩ := vfacts2 g9.rw
               have H9 := hid (And.intro (H8.out.1.put hs9 hb9 hn9) (put_other H8.out.2 hb9 hrx (.slice ao9 bs9.length cc9)))
               clear hb9 hs9 hv9 hn9 g9 hbs9))
          go_roundw
          case rel => exact ⟨m + 1, ao9, cc9, bs9, by omega, by go_num, hid (by rw [HB9.out, HB8.out, take_lt x _ m _ HAT.out, List.append_assoc]; rw [HEQ.out, strBs_mkStr _ HQ.out.2]), H9⟩
          case measure => simp [intOf]; omega
      · have HN : Hid (bs8 = bs4 ++ (xs.take (n + 1)).flatMap insBx) := hid (by
          rw [HB8.out, List.take_of_length_le (by rw [strBs_len]; omega), HB7.out, hbs.out, take_flat xs n x HX0.out, ← HLB.out]
          simp [List.append_assoc])
        go_wp2
        go_roundw
        case rel => exact ⟨n + 1, ao8, c8, bs8, by omega, by go_num, HN, hid hQ.out.1⟩
        case measure => simp [intOf]; omega
    · have HP : Hid (procB nm ar xs = bs) := hid (by
        rw [hbs.out, List.take_of_length_le (by omega), HB4.out, HB3.out, HB2.out]
        simp [procB, List.append_assoc])
      obtain ⟨q0, q1, fq⟩ := vfacts2 hT.out.rw
      go_wp2
      go_ret2
      rw [HP.out]
      exact .inr ⟨trivial, _, rfl, hT.out.sn, hT.out.hb⟩

end Go.Proofs.Ytljfmbjibjoiiaa
