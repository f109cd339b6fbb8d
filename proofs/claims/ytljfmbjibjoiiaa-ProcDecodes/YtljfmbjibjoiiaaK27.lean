import Derived.Test.YtljfmbjibjoiiaaK26
import Derived.Test.YtljfmbjibjoiiaaK25
import Derived.Test.YtljfmbjibjoiiaaK21
import Derived.Laws.CopyOwn
import Derived.Deep.Cut
namespace Go.Proofs.Ytljfmbjibjoiiaa
open Go.RowKit Go.Lib

/-- The bytes that Encode answers: none beside an error. -/
def encR (nm : ByteArray) (ar : Int) (xs : List Ins) : List Int := if (procChk nm ar xs).2 = 0 then procB nm ar xs else []

def ESl (bs : List Int) (E : Int) (w : World) (e : Ending) (w' : World) : Prop := ∃ v, e = .returned (.tuple #[v, .int .i64 E]) ∧ Sl w' v bs ∧ Below w.heap.size w w'

theorem encR_len (nm : ByteArray) (ar : Int) (xs : List Ins) (hi : ∀ x ∈ xs, InsOk x) : (encR nm ar xs).length ≤ 100000000 := by
  unfold encR
  split
  · rename_i h
    exact procB_len nm ar xs h hi
  · simp

theorem bytes_same (a b : Value) (xs : List Int) (w : World) (ha : Sl w a xs) (hb : Sl w b xs) (hl : xs.length ≤ 1000000000) :
    Calls Try.prog 16 #[a, b] w fun x w' => DN w w' ∧ x = .returned (.bool true) := by
  have := bytes_any a b xs xs w ha hb hl
  rwa [show decide (xs = xs) = true by simp] at this

theorem penc_sl (nm : ByteArray) (ar : Int) (S : Value) (xs : List Ins) (w : World) (h : CodeAt w S xs) (hl : xs.length ≤ 1000000000) (hi : ∀ x ∈ xs, InsOk x) :
    Calls Try.prog 14 #[.agg #[.string nm, .int .i64 ar, S]] w (ESl (encR nm ar xs) (procChk nm ar xs).2 w) := by
  refine (pencode_any nm ar S xs w h hl hi).mono ?_
  rintro e w' (⟨h1, rfl, hb⟩ | ⟨h1, g, rfl, ho, _, hb⟩)
  · refine ⟨_, rfl, ?_, hb⟩
    rw [encR, if_neg h1]
    exact (sn_nil _).1
  · refine ⟨_, by rw [h1], ?_, hb⟩
    have hp := procB_len nm ar xs h1 hi
    rw [encR, if_pos h1]
    exact sl_of_owns (ho.owns (B := 0) (Nat.zero_le _) (by unfold maxLen; omega))

theorem renc_sl (nm : ByteArray) (ar : Int) (S : Value) (xs : List Ins) (w : World) (h : CodeAt w S xs) (hl : xs.length ≤ 1000000000) (hi : ∀ x ∈ xs, InsOk x) :
    Calls Try.prog 15 #[.agg #[.string nm, .int .i64 ar, S]] w (ESl (encR nm ar xs) (procChk nm ar xs).2 w) := by
  by_cases hE : (procChk nm ar xs).2 = 0
  · refine (rpencode_ok nm ar S xs w h hi hE).mono ?_
    rintro e w' (⟨h1, -⟩ | ⟨_, v, rfl, hs, hb⟩)
    · exact absurd hE h1
    · refine ⟨_, by rw [hE], ?_, hb⟩
      rw [encR, if_pos hE]
      exact hs.1
  · refine (rpencode_no nm ar S xs w h hl hE).mono ?_
    rintro e w' (⟨_, rfl, hb⟩ | ⟨h1, -⟩)
    · refine ⟨_, rfl, ?_, hb⟩
      rw [encR, if_neg hE]
      exact (sn_nil _).1
    · exact absurd h1 hE

set_option maxRecDepth 100000 in
set_option maxHeartbeats 8000000 in
theorem encodes_ok (nm : ByteArray) (ar : Int) (S : Value) (xs : List Ins) (x : Ins) (i : Int) (w : World) (h : Rf w 8 S xs.length (xs.flatMap Ins.cells)) (hi : ∀ x ∈ xs, InsOk x) (hx : InsOk x) (hl : (xs.length : Int) ≤ 65536) :
    Calls Try.prog 4 #[.agg #[.string nm, .int .i64 ar, S], x.val, .int .i64 i] w fun x w' => x = .returned (.bool true) ∧ Below w.heap.size w w' := by
  have HC := hid (fun S W hW => penc_sl nm ar S xs W hW (by omega) hi)
  have HD := hid (fun S W hW => renc_sl nm ar S xs W hW (by omega) hi)
  have hbl := encR_len nm ar xs hi
  generalize encR nm ar xs = bs at HC HD hbl
  generalize (procChk nm ar xs).2 = E at HC HD
  unfold ESl at HC HD
  have HB := hid (fun va vb W ha hb => bytes_same va vb bs W ha hb (by omega))
  have HI := hid (And.intro hi hx)
  have HH := hid (code_of_rf h)
  have HRF := hid h
  have HTW := hid (fun W hW => twin_any nm ar S xs W hW hl)
  unfold TwPost at HTW
  obtain ⟨ao, cap, rfl, _, _⟩ := h.shape
  have H0 := hid (bst_start w nm ar (.slice ao xs.length cap) x)
  unfold Ins.val
  clear h hi hx
  go_enter Try.func4, Try.ntmps4
  go_upto_region 8 with (first
    | (go_at_call 9
       refine (HTW.out _ (HRF.out.below H0.out.hb)).mono ?_
       rintro e w1 ⟨g, c1, cur, rfl, hc1, hg1, hblk1, hco1, hb1⟩
       have H1 := hid (ckt_start (cap := c1) H0.out (HH.out.below H0.out.hb) hg1 hblk1 hco1 hb1)
       have hc1' : (xs.length : Int) + 9 ≤ (c1 : Int) := by omega
       obtain ⟨p0, p1', p2', -⟩ := vfacts H1.out.st.r0
       obtain ⟨t0, t1, t2, -⟩ := vfacts H1.out.t
       clear hc1 hg1 hblk1 hco1 hb1)
    | (go_at_call 14
       refine (HC.out _ _ (H1.out.code (by omega))).mono ?_
       rintro e w2 ⟨v2, rfl, hs2, hb2⟩
       obtain ⟨a2, k2, rfl, -, -⟩ := id hs2
       have HS2 := hid hs2
       have H2 := hid (H1.out.below hb2)
       obtain ⟨p0, p1', p2', -⟩ := vfacts H2.out.st.r0
       obtain ⟨t0, t1, t2, -⟩ := vfacts H2.out.t
       clear hb2 hs2)
    | (go_at_call 15
       refine (HD.out _ _ H2.out.co).mono ?_
       rintro e w3 ⟨v3, rfl, hs3, hb3⟩
       obtain ⟨a3, k3, rfl, -, -⟩ := id hs3
       have HS3 := hid (And.intro (HS2.out.below hb3) hs3)
       have H3 := hid (H2.out.below hb3)
       obtain ⟨p0, p1', p2', -⟩ := vfacts H3.out.st.r0
       obtain ⟨t0, t1, t2, -⟩ := vfacts H3.out.t
       clear hb3 hs3)
    | (go_at_call 16
       refine (HB.out _ _ _ HS3.out.1 HS3.out.2).mono ?_
       rintro e w3' ⟨hd3, rfl⟩
       have H3' := hid (H3.out.below hd3.below)
       obtain ⟨p0, p1', p2', -⟩ := vfacts H3'.out.st.r0
       obtain ⟨t0, t1, t2, -⟩ := vfacts H3'.out.t
       clear hd3)
    | (go_at_call 12
       refine (stands_any nm ar g c1 _ xs w3' (by omega) H3'.out.at_ H3'.out.co hl).mono ?_
       rintro e w4 ⟨rfl, hb4⟩
       have H4 := hid (H3'.out.below hb4)
       obtain ⟨p0, p1', p2', -⟩ := vfacts H4.out.st.r0
       obtain ⟨t0, t1, t2, -⟩ := vfacts H4.out.t
       clear hb4))
  clear H0 H1 H2 H3 H3' HC HD HTW HB
  by_cases hnil : xs = []
  · subst hnil
    go_wp2_with (first
      | (go_at_call 13
         refine (known_any _).mono ?_
         rintro e w5 ⟨rfl, hb5⟩
         have H5 := hid (below_on H4.out.st.hb hb5)
         clear hb5))
    go_ret
    exact ⟨rfl, H5.out⟩
  have hpos : 0 < xs.length := List.length_pos_iff.2 hnil
  have hpos' : (0 : Int) < (xs.length : Int) := by omega
  have hz0 : ((xs.length : Int) == 0) = false := by simp; exact hnil
  have htb : -(xs.length : Int) < i.tmod xs.length ∧ i.tmod xs.length < xs.length := by
    have h1 : (i.tmod xs.length).natAbs < xs.length := by
      rw [Int.natAbs_tmod]
      exact Nat.mod_lt _ hpos
    omega
  have HTB := hid htb
  clear htb hnil
  by_cases hneg : i.tmod xs.length < 0
  · obtain ⟨cN, hwr, hcN⟩ : ∃ c : Nat, wrap64 (i.tmod xs.length + xs.length) = c ∧ c < xs.length := by
      have := HTB.out
      refine ⟨(i.tmod xs.length + xs.length).toNat, ?_, by omega⟩
      unfold wrap64
      omega
    have HWR := hid hwr
    clear hwr
    go_upto_region 13 with fail
    rw [HWR.out]
    clear hneg
    obtain ⟨y, hy⟩ : ∃ y, xs[cN]? = some y := ⟨_, List.getElem?_eq_getElem hcN⟩
    obtain ⟨x0, x1, x2, x3, x4, x5, x6, x7, -⟩ := vfacts8 H4.out.st.r1
    obtain ⟨y0, y1, y2, y3, y4, y5, y6, y7⟩ := H4.out.at_ cN y (by rw [List.getElem?_append_left hcN]; exact hy)
    obtain ⟨cur, hcur⟩ := H4.out.blk
    have gz : ∀ q, w4.frozen? ⟨g, q, none⟩ = false := fun q => by simp [World.frozen?, hcur]
    have kg := lt_of hcur
    have hcc : (cN : Int) < (xs.length : Int) := by omega
    clear hy hcur
    go_upto_region 14 with fail
    refine cutG (fun W => Ck2 w W nm ar w1.heap.size (.slice (some ⟨g, 0, none⟩) xs.length c1) (xs.set cN x)) (ck2_start H4.out (by omega) hcN) ?_
    intro W0 H6
    have H6 := hid H6
    obtain ⟨t0, t1, t2, -⟩ := vfacts H6.out.t
    have hi2 : ∀ z ∈ xs.set cN x, InsOk z := fun z hz => (List.mem_or_eq_of_mem_set hz).elim (HI.out.1 z) (fun e => e ▸ HI.out.2)
    have HC2 := hid (fun S W hW => penc_sl nm ar S (xs.set cN x) W hW (by rw [List.length_set]; omega) hi2)
    have HD2 := hid (fun S W hW => renc_sl nm ar S (xs.set cN x) W hW (by rw [List.length_set]; omega) hi2)
    have hcl := encR_len nm ar (xs.set cN x) hi2
    generalize encR nm ar (xs.set cN x) = cs at HC2 HD2 hcl
    generalize (procChk nm ar (xs.set cN x)).2 = F at HC2 HD2
    unfold ESl at HC2 HD2
    have HB2 := hid (fun va vb W ha hb => bytes_same va vb cs W ha hb (by omega))
    clear hi2 H4 x0 x1 x2 x3 x4 x5 x6 x7 y0 y1 y2 y3 y4 y5 y6 y7 gz kg
    go_wp2_with (first
      | (go_at_call 14
         refine (HC2.out _ _ H6.out.co).mono ?_
         rintro e w7 ⟨v7, rfl, hs7, hb7⟩
         obtain ⟨a7, k7, rfl, -, -⟩ := id hs7
         have HS7 := hid hs7
         have H7 := hid (H6.out.below hb7)
         obtain ⟨t0, t1, t2, -⟩ := vfacts H7.out.t
         clear hb7 hs7)
      | (go_at_call 15
         refine (HD2.out _ _ H7.out.co).mono ?_
         rintro e w8 ⟨v8, rfl, hs8, hb8⟩
         obtain ⟨a8, k8, rfl, -, -⟩ := id hs8
         have HS8 := hid (And.intro (HS7.out.below hb8) hs8)
         have H8 := hid (H7.out.below hb8)
         clear hb8 hs8)
      | (go_at_call 16
         refine (HB2.out _ _ _ HS8.out.1 HS8.out.2).mono ?_
         rintro e w8' ⟨hd8, rfl⟩
         have H8' := hid (H8.out.below hd8.below)
         clear hd8)
      | (go_at_call 13
         refine (known_any _).mono ?_
         rintro e w9 ⟨rfl, hb9⟩
         have H9 := hid (below_on H8'.out.hb hb9)
         clear hb9))
    go_ret
    exact ⟨rfl, H9.out⟩
  · obtain ⟨cN, hwr, hcN⟩ : ∃ c : Nat, i.tmod xs.length = c ∧ c < xs.length := by
      have := HTB.out
      exact ⟨(i.tmod xs.length).toNat, by omega, by omega⟩
    have HWR := hid hwr
    clear hwr
    go_upto_region 13 with fail
    rw [HWR.out]
    clear hneg
    obtain ⟨y, hy⟩ : ∃ y, xs[cN]? = some y := ⟨_, List.getElem?_eq_getElem hcN⟩
    obtain ⟨x0, x1, x2, x3, x4, x5, x6, x7, -⟩ := vfacts8 H4.out.st.r1
    obtain ⟨y0, y1, y2, y3, y4, y5, y6, y7⟩ := H4.out.at_ cN y (by rw [List.getElem?_append_left hcN]; exact hy)
    obtain ⟨cur, hcur⟩ := H4.out.blk
    have gz : ∀ q, w4.frozen? ⟨g, q, none⟩ = false := fun q => by simp [World.frozen?, hcur]
    have kg := lt_of hcur
    have hcc : (cN : Int) < (xs.length : Int) := by omega
    clear hy hcur
    go_upto_region 14 with fail
    refine cutG (fun W => Ck2 w W nm ar w1.heap.size (.slice (some ⟨g, 0, none⟩) xs.length c1) (xs.set cN x)) (ck2_start H4.out (by omega) hcN) ?_
    intro W0 H6
    have H6 := hid H6
    obtain ⟨t0, t1, t2, -⟩ := vfacts H6.out.t
    have hi2 : ∀ z ∈ xs.set cN x, InsOk z := fun z hz => (List.mem_or_eq_of_mem_set hz).elim (HI.out.1 z) (fun e => e ▸ HI.out.2)
    have HC2 := hid (fun S W hW => penc_sl nm ar S (xs.set cN x) W hW (by rw [List.length_set]; omega) hi2)
    have HD2 := hid (fun S W hW => renc_sl nm ar S (xs.set cN x) W hW (by rw [List.length_set]; omega) hi2)
    have hcl := encR_len nm ar (xs.set cN x) hi2
    generalize encR nm ar (xs.set cN x) = cs at HC2 HD2 hcl
    generalize (procChk nm ar (xs.set cN x)).2 = F at HC2 HD2
    unfold ESl at HC2 HD2
    have HB2 := hid (fun va vb W ha hb => bytes_same va vb cs W ha hb (by omega))
    clear hi2 H4 x0 x1 x2 x3 x4 x5 x6 x7 y0 y1 y2 y3 y4 y5 y6 y7 gz kg
    go_wp2_with (first
      | (go_at_call 14
         refine (HC2.out _ _ H6.out.co).mono ?_
         rintro e w7 ⟨v7, rfl, hs7, hb7⟩
         obtain ⟨a7, k7, rfl, -, -⟩ := id hs7
         have HS7 := hid hs7
         have H7 := hid (H6.out.below hb7)
         obtain ⟨t0, t1, t2, -⟩ := vfacts H7.out.t
         clear hb7 hs7)
      | (go_at_call 15
         refine (HD2.out _ _ H7.out.co).mono ?_
         rintro e w8 ⟨v8, rfl, hs8, hb8⟩
         obtain ⟨a8, k8, rfl, -, -⟩ := id hs8
         have HS8 := hid (And.intro (HS7.out.below hb8) hs8)
         have H8 := hid (H7.out.below hb8)
         clear hb8 hs8)
      | (go_at_call 16
         refine (HB2.out _ _ _ HS8.out.1 HS8.out.2).mono ?_
         rintro e w8' ⟨hd8, rfl⟩
         have H8' := hid (H8.out.below hd8.below)
         clear hd8)
      | (go_at_call 13
         refine (known_any _).mono ?_
         rintro e w9 ⟨rfl, hb9⟩
         have H9 := hid (below_on H8'.out.hb hb9)
         clear hb9))
    go_ret
    exact ⟨rfl, H9.out⟩

end Go.Proofs.Ytljfmbjibjoiiaa

namespace Go.Proofs.Ytljfmbjibjoiiaa
open Go.RowKit Go.Lib

/-! What a Decode answers, in one shape. -/
def dN : Except Int (List Int × Int × List Ins) → ByteArray
  | .ok (nm, _, _) => mkStr nm
  | .error _ => emp
def dA : Except Int (List Int × Int × List Ins) → Int
  | .ok (_, ar, _) => ar
  | .error _ => 0
def dX : Except Int (List Int × Int × List Ins) → List Ins
  | .ok (_, _, xs) => xs
  | .error _ => []
def dE : Except Int (List Int × Int × List Ins) → Int
  | .ok _ => 0
  | .error E => E

def UPost (w : World) (n : ByteArray) (a : Int) (X : List Ins) (E : Int) (e : Ending) (w' : World) : Prop :=
  Below w.heap.size w w' ∧ ∃ (so : Option Addr) (sc : Nat), e = .returned (.tuple #[.agg #[.string n, .int .i64 a, .slice so X.length sc], .int .i64 E]) ∧ CodeAt w' (.slice so X.length sc) X

theorem code_nil (w : World) : CodeAt w (.slice none 0 0) [] := ⟨none, 0, rfl, Nat.le_refl _, fun h => absurd rfl h⟩

theorem pdec_u (v : Value) (bs : List Int) (w : World) (h : Sl w v bs) (ho : Oct bs) (hl : bs.length ≤ 1000000000) : Calls Try.prog 17 #[v] w (UPost w (dN (decP bs)) (dA (decP bs)) (dX (decP bs)) (dE (decP bs))) := by
  refine (pdecode_any v bs w h ho hl).mono ?_
  rintro e w' ⟨hb, hm⟩
  refine ⟨hb, ?_⟩
  cases hD : decP bs with
  | error E =>
    rw [hD] at hm
    exact ⟨none, 0, hm, code_nil _⟩
  | ok r =>
    obtain ⟨nm, ar, xs⟩ := r
    rw [hD] at hm
    obtain ⟨cb, rfl, _, _, h3⟩ := hm
    exact ⟨_, _, rfl, ⟨some ⟨cb, 0, none⟩, xs.length, rfl, Nat.le_refl _, fun _ => ⟨cb, 0, rfl, fun j x hj => by rw [Nat.zero_add]; exact h3 j x hj⟩⟩⟩

theorem rdec_u (v : Value) (bs : List Int) (w : World) (h : Sl w v bs) (ho : Oct bs) (hl : bs.length ≤ 1000000000) : Calls Try.prog 18 #[v] w (UPost w (dN (decP bs)) (dA (decP bs)) (dX (decP bs)) (dE (decP bs))) := by
  obtain ⟨ao, cc, rfl, _, _⟩ := id h
  refine (rpdecode_head ao cc bs w h ho hl).mono ?_
  rintro e w' ⟨hb, hm⟩
  refine ⟨hb, ?_⟩
  cases hD : decP bs with
  | error E =>
    rw [hD] at hm
    exact ⟨none, 0, hm, code_nil _⟩
  | ok r =>
    obtain ⟨nm, ar, xs⟩ := r
    rw [hD] at hm
    obtain ⟨S, rfl, hc⟩ := hm
    obtain ⟨so, sc, rfl, _, _⟩ := id hc
    exact ⟨_, _, rfl, hc⟩

theorem dX_len (bs : List Int) : (dX (decP bs)).length ≤ 64 := by
  cases hD : decP bs with
  | error E => exact Nat.zero_le _
  | ok r =>
    obtain ⟨nm, ar, xs⟩ := r
    exact tkProc_len bs nm ar xs (decP_ok bs nm ar xs hD).1

theorem same_yes (n : ByteArray) (a : Int) (X : List Ins) (S1 S2 : Value) (w : World) (h1 : CodeAt w S1 X) (h2 : CodeAt w S2 X) (hl : X.length ≤ 64) :
    Calls Try.prog 19 #[.agg #[.string n, .int .i64 a, S1], .agg #[.string n, .int .i64 a, S2]] w fun e w' => e = .returned (.bool true) ∧ Below w.heap.size w w' := by
  have := same_any n a S1 X n a S2 X w h1 h2 (by omega)
  rwa [show sameB n a X n a X = true by simp [sameB]] at this

/-! A block of bytes. -/
theorem own_set {W : World} {g : Nat} {zs : List Int} {i : Nat} {x : Int} (h : Own W g zs) : Own (W.setCell ⟨g, i, none⟩ (.int .u8 x)) g (zs.set i x) := by
  unfold Own at *
  simp [World.setCell, Array.getElem?_modify, h, List.map_set]

theorem own_cell {W : World} {g : Nat} {zs : List Int} {j : Nat} {x : Int} (h : Own W g zs) (hj : zs[j]? = some x) : W.cell? ⟨g, j, none⟩ = some (.int .u8 x) := by
  rw [cell_of_row W _ _ _ _ _ h]
  simp [hj]

theorem own_free {W : World} {g : Nat} {zs : List Int} (h : Own W g zs) (o : Nat) : W.frozen? ⟨g, o, none⟩ = false := free_of_block h

theorem own_made {W : World} {B g n : Nat} (h : W.ownsRow B 5 1 (.slice (some ⟨g, 0, none⟩) n n) n (madeCells (Value.int .u8 0).cells (n * 1)).toList) : ∃ zs, Own W g zs ∧ zs.length = n := by
  rcases h.2 with ⟨h1, _⟩ | ⟨g', cp, cur, h1, _, h2, _, _, h3, h4⟩
  · cases h1
  · simp at h1
    obtain ⟨rfl, rfl⟩ := h1
    refine ⟨List.replicate n 0, ?_, by simp⟩
    unfold Own
    rw [h2]
    congr 2
    have e : cur.toList = B8 (List.replicate n 0) := by
      rw [List.take_of_length_le (by simp [h3])] at h4
      rw [h4]
      apply List.ext_getElem
      · simp [madeCells]
      · intro i h5 h6
        simp [madeCells, Value.cells, Nat.mod_one]
    rw [← e]

theorem own_fill {W : World} {g N : Nat} {zs : List Int} (h : Own W g zs) (hl : zs.length = N) (ha : ∀ j, j < N → zs[j]? = some 171) : Own W g (List.replicate N 171) := by
  have e : zs = List.replicate N 171 := by
    apply List.ext_getElem
    · simp [hl]
    · intro i h5 h6
      have := ha i (by omega)
      rw [List.getElem?_eq_getElem h5] at this
      simpa using Option.some.inj this
  rwa [e] at h

theorem own_spl {W : World} {g N : Nat} {bs : List Int} (hN : bs.length + 9 = N) (h : W.heap[g]? = some (.cells (splice (B8 (List.replicate N 171)) 0 (B8 bs)).toArray 5 (0, 0))) : Own W g (bs ++ List.replicate 9 171) := by
  unfold Own
  rw [h]
  congr 3
  have : N - bs.length = 9 := by omega
  simp [splice, List.drop_replicate, this]

theorem own_sl {W : World} {g : Nat} {zs : List Int} (h : Own W g zs) (hl : zs.length ≤ 1000000000) : Sl W (.slice (some ⟨g, 0, none⟩) zs.length zs.length) zs := sl_of_owns (h.owns (B := 0) (Nat.zero_le _) (by unfold maxLen; omega))

theorem own_below {W W' : World} {g : Nat} {zs : List Int} (h : Own W g zs) (hb : Below W.heap.size W W') : Own W' g zs := blk_of hb h (lt_of h)

theorem ins_ne {W : World} {g b o : Nat} {zs : List Int} {x : Ins} (h : Own W g zs) (hi : InsAt W b o x) : b ≠ g := by
  rintro rfl
  have h1 := hi.1
  rw [cell_of_row W _ _ _ _ _ h] at h1
  simp at h1

theorem code_kept {W : World} {g : Nat} {zs : List Int} {S : Value} {X : List Ins} (h : Own W g zs) (hc : CodeAt W S X) (i : Nat) (v : Value) : CodeAt (W.setCell ⟨g, i, none⟩ v) S X := by
  obtain ⟨ao, cap, h1, h2, h3⟩ := hc
  refine ⟨ao, cap, h1, h2, fun hn => ?_⟩
  obtain ⟨b, off, h4, h5⟩ := h3 hn
  refine ⟨b, off, h4, fun j x hj => ?_⟩
  have hi := h5 j x hj
  have hne := ins_ne h hi
  have e := fun k => cs_blk (w := W) (Ne.symm hne) i k v
  constructor <;> first | (rw [e]; first | exact hi.1 | exact hi.2 | exact hi.3 | exact hi.4 | exact hi.5 | exact hi.6 | exact hi.7 | exact hi.8)

/-- The law's list, and what is kept of one pair of answers. -/
structure Lst (w W : World) (zs : List Int) (r1 r2 : Nat) (n : ByteArray) (a : Int) (S1 S2 : Value) (X : List Ins) : Prop where
  own : Own W w.heap.size zs
  hb : Below w.heap.size w W
  b1 : W.heap[r1]? = some (po n a S1)
  b2 : W.heap[r2]? = some (po n a S2)
  c1 : CodeAt W S1 X
  c2 : CodeAt W S2 X
  ne : w.heap.size ≠ r1 ∧ w.heap.size ≠ r2

theorem Lst.below {w W W' : World} {zs : List Int} {r1 r2 : Nat} {n : ByteArray} {a : Int} {S1 S2 : Value} {X : List Ins} (h : Lst w W zs r1 r2 n a S1 S2 X) (hb : Below W.heap.size W W') : Lst w W' zs r1 r2 n a S1 S2 X :=
  ⟨own_below h.own hb, below_on h.hb hb, blk_of hb h.b1 (lt_of h.b1), blk_of hb h.b2 (lt_of h.b2), h.c1.below hb, h.c2.below hb, h.ne⟩

theorem Lst.set {w W : World} {zs : List Int} {r1 r2 : Nat} {n : ByteArray} {a : Int} {S1 S2 : Value} {X : List Ins} (h : Lst w W zs r1 r2 n a S1 S2 X) (i : Nat) (x : Int) : Lst w (W.setCell ⟨w.heap.size, i, none⟩ (.int .u8 x)) (zs.set i x) r1 r2 n a S1 S2 X := by
  have k := (Kept.refl (fun k => k = w.heap.size) W).setCell (p := ⟨w.heap.size, i, none⟩) (fun _ => rfl) (.int .u8 x)
  refine ⟨own_set h.own, ?_, (k.block _ (lt_of h.b1) (Ne.symm h.ne.1)).trans h.b1, (k.block _ (lt_of h.b2) (Ne.symm h.ne.2)).trans h.b2, code_kept h.own h.c1 _ _, code_kept h.own h.c2 _ _, h.ne⟩
  exact h.hb.trans (k.below h.hb.size (fun k hk e => by omega))

end Go.Proofs.Ytljfmbjibjoiiaa

namespace Go.Proofs.Ytljfmbjibjoiiaa
open Go.RowKit Go.Lib

/-- Behind the first of two answers. -/
structure Ls1 (w W : World) (zs : List Int) (r1 : Nat) (n : ByteArray) (a : Int) (S1 : Value) (X : List Ins) : Prop where
  own : Own W w.heap.size zs
  hb : Below w.heap.size w W
  b1 : W.heap[r1]? = some (po n a S1)
  c1 : CodeAt W S1 X
  ne : w.heap.size ≠ r1

theorem ls1_start {w w2 w3 : World} {zs : List Int} {n : ByteArray} {a : Int} {S1 : Value} {X : List Ins} (ho : Own w2 w.heap.size zs) (h2 : Below w.heap.size w w2) (hb : Below w2.heap.size w2 w3) (hc : CodeAt w3 S1 X) :
    Ls1 w (w3.alloc (po n a S1)) zs w3.heap.size n a S1 X := by
  have h3 := own_below ho hb
  have h4 := below1 w3 (po n a S1)
  exact ⟨own_below h3 h4, below_on (below_on h2 hb) h4, heap_alloc_new w3 _, hc.below h4, by have := lt_of h3; omega⟩

theorem lst_start {w W w4 : World} {zs : List Int} {r1 : Nat} {n : ByteArray} {a : Int} {S1 S2 : Value} {X : List Ins} (h : Ls1 w W zs r1 n a S1 X) (hb : Below W.heap.size W w4) (hc : CodeAt w4 S2 X) :
    Lst w (w4.alloc (po n a S2)) zs r1 w4.heap.size n a S1 S2 X := by
  have h3 := own_below h.own hb
  have h4 := below1 w4 (po n a S2)
  have h5 := blk_of hb h.b1 (lt_of h.b1)
  exact ⟨own_below h3 h4, below_on (below_on h.hb hb) h4, blk_of h4 h5 (lt_of h5), heap_alloc_new w4 _, (h.c1.below hb).below h4, hc.below h4, h.ne, by have := lt_of h3; omega⟩

theorem fill_step {N i : Nat} {zs : List Int} (hl : zs.length = N) (hi : i < N) (h : ∀ j, j < i → zs[j]? = some 171) : ∀ j, j < i + 1 → (zs.set i 171)[j]? = some 171 := by
  intro j hj
  by_cases e : i = j
  · subst e
    rw [List.getElem?_set_self (by omega)]
  · rw [List.getElem?_set_ne e]
    exact h j (by omega)

theorem oct_set {bs : List Int} {k : Nat} {x : Int} (h : Oct bs) (hx : 0 ≤ x ∧ x < 256) : Oct (bs.set k x) := by
  intro y hy
  rcases List.mem_or_eq_of_mem_set hy with h1 | h1
  · exact h y h1
  · subst h1
    exact hx

def CpSrc (g : Nat) (ao : Option Addr) (bs : List Int) (W : World) : Prop :=
  0 < (B8 bs).length → some (⟨g, 0, none⟩ : Addr) = some ⟨g, 0, none⟩ ∧ ∃ ad, ao = some ad ∧ ∀ (j : Nat) (u : Value), (B8 bs)[j]? = some u → W.cell? (ad.add j) = some u

set_option maxRecDepth 100000 in
set_option maxHeartbeats 8000000 in
theorem dec_law (v : Value) (bs : List Int) (at0 by0 : Int) (w : World) (h : Sl w v bs) (ho : Oct bs) (hby : 0 ≤ by0 ∧ by0 < 256) (hl : (bs.length : Int) ≤ 65536) :
    Calls Try.prog 5 #[v, .int .i64 at0, .int .u8 by0] w fun x w' => x = .returned (.bool true) ∧ Below w.heap.size w w' := by
  have HS := hid h
  have HO := hid ho
  have HBY := hid hby
  obtain ⟨ao, cc, rfl, hc, hx⟩ := h
  have HX := hid hx
  obtain ⟨i0, hi, hz0, hz1, hz2⟩ := info_parts Try.info5
  have hsz : (Try.prog.info? 5).map (·.size) = some 1 := by rw [hi]; simp [hz1]
  obtain ⟨N, hN⟩ : ∃ N, N = bs.length + 9 := ⟨_, rfl⟩
  have HN := hid hN
  have hNa : bs.length + 9 ≤ N := by omega
  have hNb : N ≤ bs.length + 9 := by omega
  have HNM : Hid ((B8 bs).length = Nat.min bs.length N) := hid (by
    have : Nat.min bs.length N = bs.length := Nat.min_eq_left (by omega)
    simp [this])
  clear ho hc hx hby hN
  go_enter Try.func5, Try.ntmps5
  go_upto_region 4 with (at_make; go_loud (
    refine wpList_make_full _ rfl _ _ 38 rfl w.heap.size 5 i0 (.int .u8 0) 1 Try.underlying38 hi hz0 hz1 _ _ _ _ N rfl rfl (by have := HN.out; omega) (by have := HN.out; omega) (by rw [hz2]; omega) (by unfold maxLen; omega) (Nat.le_refl _) ?_
    intro w1 hown hgrow
    have H1 := hid (And.intro (own_made hown) ((Below.refl _ _).grown hgrow (Nat.le_refl _) (by intro k hk; cases hk)))
    clear hown hgrow))
  obtain ⟨⟨z0, hz, hzl⟩, hb1⟩ := H1.out
  have HZ := hid (And.intro hz hb1)
  clear H1 hz hb1 hi hz0 hz1 hz2
  go_wp2
  go_loopw [8] (fun ix wr => ∃ (i : Nat) (zs : List Int), i ≤ N ∧ ix = .int .i64 i ∧ zs.length = N ∧ Hid (∀ j, j < i → zs[j]? = some 171) ∧ Hid (Own wr w.heap.size zs ∧ Below w.heap.size w wr)) (fun ix _ => N - (intOf ix).toNat)
  case atStart => exact ⟨0, z0, Nat.zero_le _, rfl, hzl, hid (fun j hj => absurd hj (Nat.not_lt_zero _)), HZ⟩
  clear HZ hzl
  obtain ⟨i, zs, hiN, rfl, hzs, HA, HW⟩ := hrel
  by_cases hlt : i < N
  · have i1 : (0 : Int) ≤ (i : Int) := by omega
    have i2 : (i : Int) < (N : Int) := by omega
    obtain ⟨x, hx⟩ : ∃ x, zs[i]? = some x := ⟨zs[i], List.getElem?_eq_getElem (by omega)⟩
    have c1 := own_cell HW.out.1 hx
    have f1 := own_free HW.out.1 i
    clear hx
    go_wp2
    go_roundw
    case rel => exact ⟨i + 1, zs.set i 171, by omega, by go_num, by simp [hzs], hid (fill_step hzs hlt HA.out), hid ⟨own_set HW.out.1, HW.out.2.setCell (Nat.le_refl _) _⟩⟩
    case measure => simp [intOf]; omega
  · obtain rfl : i = N := by omega
    have HF := hid (And.intro (own_fill HW.out.1 hzs HA.out) HW.out.2)
    have HPOS : Hid (CpSrc w.heap.size ao bs wr) := hid (by
      intro hp
      have hne : bs ≠ [] := by intro e; subst e; simp at hp
      obtain ⟨b, off, rfl, hj⟩ := HX.out hne
      refine ⟨rfl, _, rfl, ?_⟩
      intro j u hu
      rw [add_lit]
      obtain ⟨y, hy, rfl⟩ : ∃ y, bs[j]? = some y ∧ Value.int .u8 y = u := by simpa using hu
      have := hj j y hy
      exact (HW.out.2.cell (World.block_lt_of_cell? _ _ this)).trans this)
    clear HA HW hzs hlt HX
    go_upto_region 9 with (
      refine wpList_copy_splice (by rfl) (.tmp 32) (.tmp 33) 38 38 rfl 5 Try.underlying38 hsz _ _ _ _ _ _ rfl rfl w.heap.size 0 (B8 (List.replicate i 171)) 5 HF.out.1 (B8 bs) HNM.out HPOS.out (by simp; omega) (by intro u hu; obtain ⟨_, _, rfl⟩ := List.mem_map.1 hu; rfl) w.heap.size w HF.out.2 (Nat.le_refl _) ?_
      intro w2 hg2 hb2
      have H2 := hid (And.intro (own_spl (by omega) hg2.out) hb2)
      clear hg2 hb2)
    clear HF HPOS HNM hsz
    have hzl2 : (bs ++ List.replicate 9 171).length = i := by simp; omega
    obtain ⟨rv, hrv, hsl, -⟩ := sl_to (own_sl H2.out.1 (by omega)) bs.length (by simp)
    rw [List.take_left] at hsl
    rw [hzl2] at hrv
    have HRV := hid hsl
    obtain ⟨gv, hgv⟩ : ∃ gv, gv = Value.slice (some ⟨w.heap.size, 0, none⟩) i i := ⟨_, rfl⟩
    rw [← hgv] at hrv ⊢
    have HGV := hid hgv
    have hP := pdec_u rv bs
    have hR := rdec_u (.slice ao bs.length cc) bs
    have hxl := dX_len bs
    generalize dN (decP bs) = n1 at hP hR
    generalize dA (decP bs) = a1 at hP hR
    generalize dX (decP bs) = X1 at hP hR hxl
    generalize dE (decP bs) = E1 at hP hR
    unfold UPost at hP hR
    have HP := hid hP
    have HR := hid hR
    have HSM := hid (fun S1 S2 W h1 h2 => same_yes n1 a1 X1 S1 S2 W h1 h2 hxl)
    clear hP hR hsl hgv hxl
    go_upto_region 11 with (first
      | (go_at_call 17
         refine (HP.out _ HRV.out HO.out (by omega)).mono ?_
         rintro e w3 ⟨hb3, so1, sc1, rfl, hc1⟩
         have H3 := hid (ls1_start (n := n1) (a := a1) H2.out.1 H2.out.2 hb3 hc1)
         have HR3 := hid (HRV.out.below hb3)
         clear hb3 hc1)
      | (go_at_call 18
         refine (HR.out _ (HS.out.below H3.out.hb) HO.out (by omega)).mono ?_
         rintro e w4 ⟨hb4, so2, sc2, rfl, hc2⟩
         have H4 := hid (lst_start H3.out hb4 hc2)
         have HR4 := hid (((HR3.out.below (below1 w3 _)).below hb4).below (below1 w4 (po n1 a1 (.slice so2 X1.length sc2))))
         clear hb4 hc2))
    clear HP HR H2 H3 HRV HR3 hrv
    refine cutG (fun W => Lst w W (bs ++ List.replicate 9 171) w3.heap.size w4.heap.size n1 a1 (.slice so1 X1.length sc1) (.slice so2 X1.length sc2) X1 ∧ Sl W rv bs) (And.intro H4.out HR4.out) ?_
    intro W5 HH
    have H5 := hid HH
    clear HH H4 HR4
    generalize w3.heap.size = r1 at H5 ⊢
    generalize w4.heap.size = r2 at H5 ⊢
    clear w1 w2 w3 w4
    obtain ⟨p0, p1, p2, -⟩ := vfacts H5.out.1.b1
    obtain ⟨q0, q1, q2, -⟩ := vfacts H5.out.1.b2
    obtain ⟨rv0, hrv, hsl, -⟩ := sl_to (own_sl H5.out.1.own (by omega)) bs.length (by simp)
    rw [List.take_left] at hsl
    rw [hzl2, ← HGV.out] at hrv
    have HSL := hid hsl
    clear hsl
    go_upto_region 13 with (first
      | (go_at_call 19
         refine (HSM.out _ _ _ H5.out.1.c1 H5.out.1.c2).mono ?_
         rintro e w6 ⟨rfl, hb6⟩
         have H6 := hid (H5.out.1.below hb6)
         have HL6 := hid (HSL.out.below hb6)
         clear hb6)
      | (go_at_call 16
         refine (bytes_same _ _ bs _ HL6.out (HS.out.below H6.out.hb) (by omega)).mono ?_
         rintro e w7 ⟨hd7, rfl⟩
         have H7 := hid (H6.out.below hd7.below)
         clear hd7))
    clear H5 HSL HL6 H6 p0 p1 p2 q0 q1 q2 hrv
    rw [HGV.out]
    go_wp2
    go_loopw [13] (fun ix wq => ∃ (j : Nat), bs.length ≤ j ∧ j ≤ i ∧ ix = .int .i64 j ∧ Hid (Lst w wq (bs ++ List.replicate 9 171) r1 r2 n1 a1 (.slice so1 X1.length sc1) (.slice so2 X1.length sc2) X1)) (fun ix _ => i - (intOf ix).toNat)
    case atStart => exact ⟨bs.length, Nat.le_refl _, by omega, rfl, H7⟩
    clear H7
    obtain ⟨j, hj0, hj1, rfl, HL⟩ := hrel
    by_cases hlt : j < i
    · have i1 : (0 : Int) ≤ (j : Int) := by omega
      have i2 : (j : Int) < (i : Int) := by omega
      have c1 := own_cell HL.out.own (show (bs ++ List.replicate 9 171)[j]? = some (171 : Int) by rw [List.getElem?_append_right hj0, List.getElem?_replicate, if_pos (by omega)])
      go_wp2
      go_roundw
      case rel => exact ⟨j + 1, by omega, by omega, by go_num, HL⟩
      case measure => simp [intOf]; omega
    · obtain rfl : j = i := by omega
      by_cases hpos : bs.length = 0
      · have hpos' : (bs.length : Int) = 0 := by omega
        go_wp2_with (go_at_call 13; refine (known_any _).mono ?_; rintro e w8 ⟨rfl, hb8⟩)
        go_ret
        exact ⟨rfl, below_on HL.out.hb hb8⟩
      · have hpos1 : (0 : Int) < (bs.length : Int) := by omega
        have htb : -(bs.length : Int) < at0.tmod bs.length ∧ at0.tmod bs.length < bs.length := by
          have h1 : (at0.tmod bs.length).natAbs < bs.length := by
            rw [Int.natAbs_tmod]
            exact Nat.mod_lt _ (by omega)
          omega
        have HTB := hid htb
        clear htb
        by_cases hneg : at0.tmod bs.length < 0
        · obtain ⟨k, hwr, hk⟩ : ∃ c : Nat, wrap64 (at0.tmod bs.length + bs.length) = c ∧ c < bs.length := by
            have := HTB.out
            refine ⟨(at0.tmod bs.length + bs.length).toNat, ?_, by omega⟩
            unfold wrap64
            omega
          have HWR := hid hwr
          clear hwr
          go_upto_region 23 with fail
          rw [HWR.out]
          clear HTB HWR hneg
          have i1 : (0 : Int) ≤ (k : Int) := by omega
          have i2 : (k : Int) < (j : Int) := by omega
          obtain ⟨x, hx⟩ : ∃ x, (bs ++ List.replicate 9 171)[k]? = some x := ⟨_, List.getElem?_eq_getElem (by simp; omega)⟩
          have c1 := own_cell HL.out.own hx
          have f1 := own_free HL.out.own k
          clear hx
          go_upto_region 24 with fail
          refine cutG (fun W => Lst w W (bs.set k by0 ++ List.replicate 9 171) r1 r2 n1 a1 (.slice so1 X1.length sc1) (.slice so2 X1.length sc2) X1) (by have := HL.out.set k by0; rwa [List.set_append_left _ _ hk] at this) ?_
          intro W6 HH
          have H6 := hid HH
          clear HH HL c1 f1 i1 i2
          have hb2 : (bs.set k by0).length = bs.length := List.length_set
          have hzl3 : (bs.set k by0 ++ List.replicate 9 171).length = j := by simp; omega
          have HO2 := hid (oct_set (k := k) HO.out HBY.out)
          obtain ⟨rv2, hrv2, hsl2, -⟩ := sl_to (own_sl H6.out.own (by omega)) bs.length (by simp)
          rw [List.take_append_of_le_length (by omega), List.take_of_length_le (by omega)] at hsl2
          rw [hzl3, ← HGV.out] at hrv2
          rw [← HGV.out]
          have hP := pdec_u rv2 (bs.set k by0)
          have hR := rdec_u rv2 (bs.set k by0)
          have hxl := dX_len (bs.set k by0)
          generalize dN (decP (bs.set k by0)) = n2 at hP hR
          generalize dA (decP (bs.set k by0)) = a2 at hP hR
          generalize dX (decP (bs.set k by0)) = X2 at hP hR hxl
          generalize dE (decP (bs.set k by0)) = E2 at hP hR
          unfold UPost at hP hR
          have HP := hid hP
          have HR := hid hR
          have HSL2 := hid hsl2
          have HSM2 := hid (fun S1 S2 W h1 h2 => same_yes n2 a2 X2 S1 S2 W h1 h2 hxl)
          clear hP hR hsl2 hxl
          go_upto_region 26 with (first
            | (go_at_call 17
               refine (HP.out _ HSL2.out HO2.out (by omega)).mono ?_
               rintro e w7 ⟨hb7, so3, sc3, rfl, hc7⟩
               have H7 := hid (And.intro (ls1_start (n := n2) (a := a2) H6.out.own H6.out.hb hb7 hc7) (And.intro ((H6.out.below hb7).below (below1 w7 (po n2 a2 (.slice so3 X2.length sc3)))) ((HSL2.out.below hb7).below (below1 w7 (po n2 a2 (.slice so3 X2.length sc3))))))
               clear hb7 hc7)
            | (go_at_call 18
               refine (HR.out _ H7.out.2.2 HO2.out (by omega)).mono ?_
               rintro e w8 ⟨hb8, so4, sc4, rfl, hc8⟩
               have H8 := hid (And.intro (lst_start H7.out.1 hb8 hc8) ((H7.out.2.1.below hb8).below (below1 w8 (po n2 a2 (.slice so4 X2.length sc4)))))
               clear hb8 hc8))
          clear H6 H7 HP HR HSL2 hrv2 HO2
          obtain ⟨p0, p1, p2, -⟩ := vfacts H8.out.1.b1
          obtain ⟨q0, q1, q2, -⟩ := vfacts H8.out.1.b2
          go_wp2_with (first
            | (go_at_call 19
               refine (HSM2.out _ _ _ H8.out.1.c1 H8.out.1.c2).mono ?_
               rintro e w9 ⟨rfl, hb9⟩
               have H9 := hid (H8.out.2.below hb9)
               obtain ⟨p0, p1, p2, -⟩ := vfacts H9.out.b1
               obtain ⟨q0, q1, q2, -⟩ := vfacts H9.out.b2
               clear hb9 HSM2)
            | (go_at_call 19
               refine (HSM.out _ _ _ H9.out.c1 H9.out.c2).mono ?_
               rintro e w10 ⟨rfl, hb10⟩
               have H10 := hid (below_on H9.out.hb hb10)
               clear hb10)
            | (go_at_call 13
               refine (known_any _).mono ?_
               rintro e w11 ⟨rfl, hb11⟩
               have H11 := hid (below_on H10.out hb11)
               clear hb11))
          go_ret
          exact ⟨rfl, H11.out⟩
        · obtain ⟨k, hwr, hk⟩ : ∃ c : Nat, at0.tmod bs.length = c ∧ c < bs.length := by
            have := HTB.out
            exact ⟨(at0.tmod bs.length).toNat, by omega, by omega⟩
          have HWR := hid hwr
          clear hwr
          go_upto_region 23 with fail
          rw [HWR.out]
          clear HTB HWR hneg
          have i1 : (0 : Int) ≤ (k : Int) := by omega
          have i2 : (k : Int) < (j : Int) := by omega
          obtain ⟨x, hx⟩ : ∃ x, (bs ++ List.replicate 9 171)[k]? = some x := ⟨_, List.getElem?_eq_getElem (by simp; omega)⟩
          have c1 := own_cell HL.out.own hx
          have f1 := own_free HL.out.own k
          clear hx
          go_upto_region 24 with fail
          refine cutG (fun W => Lst w W (bs.set k by0 ++ List.replicate 9 171) r1 r2 n1 a1 (.slice so1 X1.length sc1) (.slice so2 X1.length sc2) X1) (by have := HL.out.set k by0; rwa [List.set_append_left _ _ hk] at this) ?_
          intro W6 HH
          have H6 := hid HH
          clear HH HL c1 f1 i1 i2
          have hb2 : (bs.set k by0).length = bs.length := List.length_set
          have hzl3 : (bs.set k by0 ++ List.replicate 9 171).length = j := by simp; omega
          have HO2 := hid (oct_set (k := k) HO.out HBY.out)
          obtain ⟨rv2, hrv2, hsl2, -⟩ := sl_to (own_sl H6.out.own (by omega)) bs.length (by simp)
          rw [List.take_append_of_le_length (by omega), List.take_of_length_le (by omega)] at hsl2
          rw [hzl3, ← HGV.out] at hrv2
          rw [← HGV.out]
          have hP := pdec_u rv2 (bs.set k by0)
          have hR := rdec_u rv2 (bs.set k by0)
          have hxl := dX_len (bs.set k by0)
          generalize dN (decP (bs.set k by0)) = n2 at hP hR
          generalize dA (decP (bs.set k by0)) = a2 at hP hR
          generalize dX (decP (bs.set k by0)) = X2 at hP hR hxl
          generalize dE (decP (bs.set k by0)) = E2 at hP hR
          unfold UPost at hP hR
          have HP := hid hP
          have HR := hid hR
          have HSL2 := hid hsl2
          have HSM2 := hid (fun S1 S2 W h1 h2 => same_yes n2 a2 X2 S1 S2 W h1 h2 hxl)
          clear hP hR hsl2 hxl
          go_upto_region 26 with (first
            | (go_at_call 17
               refine (HP.out _ HSL2.out HO2.out (by omega)).mono ?_
               rintro e w7 ⟨hb7, so3, sc3, rfl, hc7⟩
               have H7 := hid (And.intro (ls1_start (n := n2) (a := a2) H6.out.own H6.out.hb hb7 hc7) (And.intro ((H6.out.below hb7).below (below1 w7 (po n2 a2 (.slice so3 X2.length sc3)))) ((HSL2.out.below hb7).below (below1 w7 (po n2 a2 (.slice so3 X2.length sc3))))))
               clear hb7 hc7)
            | (go_at_call 18
               refine (HR.out _ H7.out.2.2 HO2.out (by omega)).mono ?_
               rintro e w8 ⟨hb8, so4, sc4, rfl, hc8⟩
               have H8 := hid (And.intro (lst_start H7.out.1 hb8 hc8) ((H7.out.2.1.below hb8).below (below1 w8 (po n2 a2 (.slice so4 X2.length sc4)))))
               clear hb8 hc8))
          clear H6 H7 HP HR HSL2 hrv2 HO2
          obtain ⟨p0, p1, p2, -⟩ := vfacts H8.out.1.b1
          obtain ⟨q0, q1, q2, -⟩ := vfacts H8.out.1.b2
          go_wp2_with (first
            | (go_at_call 19
               refine (HSM2.out _ _ _ H8.out.1.c1 H8.out.1.c2).mono ?_
               rintro e w9 ⟨rfl, hb9⟩
               have H9 := hid (H8.out.2.below hb9)
               obtain ⟨p0, p1, p2, -⟩ := vfacts H9.out.b1
               obtain ⟨q0, q1, q2, -⟩ := vfacts H9.out.b2
               clear hb9 HSM2)
            | (go_at_call 19
               refine (HSM.out _ _ _ H9.out.c1 H9.out.c2).mono ?_
               rintro e w10 ⟨rfl, hb10⟩
               have H10 := hid (below_on H9.out.hb hb10)
               clear hb10)
            | (go_at_call 13
               refine (known_any _).mono ?_
               rintro e w11 ⟨rfl, hb11⟩
               have H11 := hid (below_on H10.out hb11)
               clear hb11))
          go_ret
          exact ⟨rfl, H11.out⟩

end Go.Proofs.Ytljfmbjibjoiiaa
