import Derived.Test.YtljfmbjibjoiiaaK21
import Derived.Test.YtljfmbjibjoiiaaK23
import Derived.ProofKit
import Derived.OpenShut
import Derived.Deep.Slices
import Derived.Test.YtljfmbjibjoiiaaK15
import Derived.Test.YtljfmbjibjoiiaaK04
import Derived.Deep.Strs
import Derived.ShutString
import Derived.ChangeOld
namespace Go.Proofs.Ytljfmbjibjoiiaa
open Go.RowKit Go.Lib

/-- The bytes that Encode answers: none beside an error. -/
def encR (nm : ByteArray) (ar : Int) (xs : List Ins) : List Int := if (procChk nm ar xs).2 = 0 then procB nm ar xs else []

def ESl (bs : List Int) (E : Int) (w : World) (e : Ending) (w' : World) : Prop := ∃ v, e = .returned (.tuple #[v, .int .i64 E]) ∧ Sl w' v bs ∧ Below w.heap.size w w'

theorem encR_len (nm : ByteArray) (ar : Int) (xs : List Ins) (hi : ∀ x ∈ xs, InsOk x) : (encR nm ar xs).length ≤ 100000000 := by
  unfold encR
  split
  · rename_i h
    exact procB_len nm ar xs h hi
  · simp

theorem bytes_same (a b : Value) (xs : List Int) (w : World) (ha : Sl w a xs) (hb : Sl w b xs) (hl : xs.length ≤ 1000000000) :
    Calls Try.prog 16 #[a, b] w fun x w' => DN w w' ∧ x = .returned (.bool true) := by
  have := bytes_any a b xs xs w ha hb hl
  rwa [show decide (xs = xs) = true by simp] at this

theorem penc_sl (nm : ByteArray) (ar : Int) (S : Value) (xs : List Ins) (w : World) (h : CodeAt w S xs) (hl : xs.length ≤ 1000000000) (hi : ∀ x ∈ xs, InsOk x) :
    Calls Try.prog 14 #[.agg #[.string nm, .int .i64 ar, S]] w (ESl (encR nm ar xs) (procChk nm ar xs).2 w) := by
  refine (pencode_any nm ar S xs w h hl hi).mono ?_
  rintro e w' (⟨h1, rfl, hb⟩ | ⟨h1, g, rfl, ho, _, hb⟩)
  · refine ⟨_, rfl, ?_, hb⟩
    rw [encR, if_neg h1]
    exact (sn_nil _).1
  · refine ⟨_, by rw [h1], ?_, hb⟩
    have hp := procB_len nm ar xs h1 hi
    rw [encR, if_pos h1]
    exact sl_of_owns (ho.owns (B := 0) (Nat.zero_le _) (by unfold maxLen; omega))

theorem renc_sl (nm : ByteArray) (ar : Int) (S : Value) (xs : List Ins) (w : World) (h : CodeAt w S xs) (hl : xs.length ≤ 1000000000) (hi : ∀ x ∈ xs, InsOk x) :
    Calls Try.prog 15 #[.agg #[.string nm, .int .i64 ar, S]] w (ESl (encR nm ar xs) (procChk nm ar xs).2 w) := by
  by_cases hE : (procChk nm ar xs).2 = 0
  · refine (rpencode_ok nm ar S xs w h hi hE).mono ?_
    rintro e w' (⟨h1, -⟩ | ⟨_, v, rfl, hs, hb⟩)
    · exact absurd hE h1
    · refine ⟨_, by rw [hE], ?_, hb⟩
      rw [encR, if_pos hE]
      exact hs.1
  · refine (rpencode_no nm ar S xs w h hl hE).mono ?_
    rintro e w' (⟨_, rfl, hb⟩ | ⟨h1, -⟩)
    · refine ⟨_, rfl, ?_, hb⟩
      rw [encR, if_neg hE]
      exact (sn_nil _).1
    · exact absurd h1 hE

set_option maxRecDepth 100000 in
set_option maxHeartbeats 8000000 in
theorem encodes_ok (nm : ByteArray) (ar : Int) (S : Value) (xs : List Ins) (x : Ins) (i : Int) (w : World) (h : Rf w 8 S xs.length (xs.flatMap Ins.cells)) (hi : ∀ x ∈ xs, InsOk x) (hx : InsOk x) (hl : (xs.length : Int) ≤ 65536) :
    Calls Try.prog 4 #[.agg #[.string nm, .int .i64 ar, S], x.val, .int .i64 i] w fun x w' => x = .returned (.bool true) ∧ Below w.heap.size w w' := by
  have HC := hid (fun S W hW => penc_sl nm ar S xs W hW (by omega) hi)
  have HD := hid (fun S W hW => renc_sl nm ar S xs W hW (by omega) hi)
  have hbl := encR_len nm ar xs hi
  generalize encR nm ar xs = bs at HC HD hbl
  generalize (procChk nm ar xs).2 = E at HC HD
  unfold ESl at HC HD
  have HB := hid (fun va vb W ha hb => bytes_same va vb bs W ha hb (by omega))
  have HI := hid (And.intro hi hx)
  have HH := hid (code_of_rf h)
  have HRF := hid h
  have HTW := hid (fun W hW => twin_any nm ar S xs W hW hl)
  unfold TwPost at HTW
  obtain ⟨ao, cap, rfl, _, _⟩ := h.shape
  have H0 := hid (bst_start w nm ar (.slice ao xs.length cap) x)
  unfold Ins.val
  clear h hi hx
  go_enter Try.func4, Try.ntmps4
  go_upto_region 8 with (first
    | (go_at_call 9
       refine (HTW.out _ (HRF.out.below H0.out.hb)).mono ?_
       rintro e w1 ⟨g, c1, cur, rfl, hc1, hg1, hblk1, hco1, hb1⟩
       have H1 := hid (ckt_start (cap := c1) H0.out (HH.out.below H0.out.hb) hg1 hblk1 hco1 hb1)
       have hc1' : (xs.length : Int) + 9 ≤ (c1 : Int) := by omega
       obtain ⟨p0, p1', p2', -⟩ := vfacts H1.out.st.r0
       obtain ⟨t0, t1, t2, -⟩ := vfacts H1.out.t
       clear hc1 hg1 hblk1 hco1 hb1)
    | (go_at_call 14
       refine (HC.out _ _ (H1.out.code (by omega))).mono ?_
       rintro e w2 ⟨v2, rfl, hs2, hb2⟩
       obtain ⟨a2, k2, rfl, -, -⟩ := id hs2
       have HS2 := hid hs2
       have H2 := hid (H1.out.below hb2)
       obtain ⟨p0, p1', p2', -⟩ := vfacts H2.out.st.r0
       obtain ⟨t0, t1, t2, -⟩ := vfacts H2.out.t
       clear hb2 hs2)
    | (go_at_call 15
       refine (HD.out _ _ H2.out.co).mono ?_
       rintro e w3 ⟨v3, rfl, hs3, hb3⟩
       obtain ⟨a3, k3, rfl, -, -⟩ := id hs3
       have HS3 := hid (And.intro (HS2.out.below hb3) hs3)
       have H3 := hid (H2.out.below hb3)
       obtain ⟨p0, p1', p2', -⟩ := vfacts H3.out.st.r0
       obtain ⟨t0, t1, t2, -⟩ := vfacts H3.out.t
       clear hb3 hs3)
    | (go_at_call 16
       refine (HB.out _ _ _ HS3.out.1 HS3.out.2).mono ?_
       rintro e w3' ⟨hd3, rfl⟩
       have H3' := hid (H3.out.below hd3.below)
       obtain ⟨p0, p1', p2', -⟩ := vfacts H3'.out.st.r0
       obtain ⟨t0, t1, t2, -⟩ := vfacts H3'.out.t
       clear hd3)
    | (go_at_call 12
       refine (stands_any nm ar g c1 _ xs w3' (by omega) H3'.out.at_ H3'.out.co hl).mono ?_
       rintro e w4 ⟨rfl, hb4⟩
       have H4 := hid (H3'.out.below hb4)
       obtain ⟨p0, p1', p2', -⟩ := vfacts H4.out.st.r0
       obtain ⟨t0, t1, t2, -⟩ := vfacts H4.out.t
       clear hb4))
  clear H0 H1 H2 H3 H3' HC HD HTW HB
  by_cases hnil : xs = []
  · subst hnil
    go_wp2_with (first
      | (go_at_call 13
         refine (known_any _).mono ?_
         rintro e w5 ⟨rfl, hb5⟩
         have H5 := hid (below_on H4.out.st.hb hb5)
         clear hb5))
    go_ret
    exact ⟨rfl, H5.out⟩
  have hpos : 0 < xs.length := List.length_pos_iff.2 hnil
  have hpos' : (0 : Int) < (xs.length : Int) := by omega
  have hz0 : ((xs.length : Int) == 0) = false := by simp; exact hnil
  have htb : -(xs.length : Int) < i.tmod xs.length ∧ i.tmod xs.length < xs.length := by
    have h1 : (i.tmod xs.length).natAbs < xs.length := by
      rw [Int.natAbs_tmod]
      exact Nat.mod_lt _ hpos
    omega
  have HTB := hid htb
  clear htb hnil
  by_cases hneg : i.tmod xs.length < 0
  · obtain ⟨cN, hwr, hcN⟩ : ∃ c : Nat, wrap64 (i.tmod xs.length + xs.length) = c ∧ c < xs.length := by
      have := HTB.out
      refine ⟨(i.tmod xs.length + xs.length).toNat, ?_, by omega⟩
      unfold wrap64
      omega
    have HWR := hid hwr
    clear hwr
    go_upto_region 13 with fail
    rw [HWR.out]
    clear hneg
    obtain ⟨y, hy⟩ : ∃ y, xs[cN]? = some y := ⟨_, List.getElem?_eq_getElem hcN⟩
    obtain ⟨x0, x1, x2, x3, x4, x5, x6, x7, -⟩ := vfacts8 H4.out.st.r1
    obtain ⟨y0, y1, y2, y3, y4, y5, y6, y7⟩ := H4.out.at_ cN y (by rw [List.getElem?_append_left hcN]; exact hy)
    obtain ⟨cur, hcur⟩ := H4.out.blk
    have gz : ∀ q, w4.frozen? ⟨g, q, none⟩ = false := fun q => by simp [World.frozen?, hcur]
    have kg := lt_of hcur
    have hcc : (cN : Int) < (xs.length : Int) := by omega
    clear hy hcur
    go_upto_region 14 with fail
    refine cutG (fun W => Ck2 w W nm ar w1.heap.size (.slice (some ⟨g, 0, none⟩) xs.length c1) (xs.set cN x)) (ck2_start H4.out (by omega) hcN) ?_
    intro W0 H6
    have H6 := hid H6
    obtain ⟨t0, t1, t2, -⟩ := vfacts H6.out.t
    have hi2 : ∀ z ∈ xs.set cN x, InsOk z := fun z hz => (List.mem_or_eq_of_mem_set hz).elim (HI.out.1 z) (fun e => e ▸ HI.out.2)
    have HC2 := hid (fun S W hW => penc_sl nm ar S (xs.set cN x) W hW (by rw [List.length_set]; omega) hi2)
    have HD2 := hid (fun S W hW => renc_sl nm ar S (xs.set cN x) W hW (by rw [List.length_set]; omega) hi2)
    have hcl := encR_len nm ar (xs.set cN x) hi2
    generalize encR nm ar (xs.set cN x) = cs at HC2 HD2 hcl
    generalize (procChk nm ar (xs.set cN x)).2 = F at HC2 HD2
    unfold ESl at HC2 HD2
    have HB2 := hid (fun va vb W ha hb => bytes_same va vb cs W ha hb (by omega))
    clear hi2 H4 x0 x1 x2 x3 x4 x5 x6 x7 y0 y1 y2 y3 y4 y5 y6 y7 gz kg
    go_wp2_with (first
      | (go_at_call 14
         refine (HC2.out _ _ H6.out.co).mono ?_
         rintro e w7 ⟨v7, rfl, hs7, hb7⟩
         obtain ⟨a7, k7, rfl, -, -⟩ := id hs7
         have HS7 := hid hs7
         have H7 := hid (H6.out.below hb7)
         obtain ⟨t0, t1, t2, -⟩ := vfacts H7.out.t
         clear hb7 hs7)
      | (go_at_call 15
         refine (HD2.out _ _ H7.out.co).mono ?_
         rintro e w8 ⟨v8, rfl, hs8, hb8⟩
         obtain ⟨a8, k8, rfl, -, -⟩ := id hs8
         have HS8 := hid (And.intro (HS7.out.below hb8) hs8)
         have H8 := hid (H7.out.below hb8)
         clear hb8 hs8)
      | (go_at_call 16
         refine (HB2.out _ _ _ HS8.out.1 HS8.out.2).mono ?_
         rintro e w8' ⟨hd8, rfl⟩
         have H8' := hid (H8.out.below hd8.below)
         clear hd8)
      | (go_at_call 13
         refine (known_any _).mono ?_
         rintro e w9 ⟨rfl, hb9⟩
         have H9 := hid (below_on H8'.out.hb hb9)
         clear hb9))
    go_ret
    exact ⟨rfl, H9.out⟩
  · obtain ⟨cN, hwr, hcN⟩ : ∃ c : Nat, i.tmod xs.length = c ∧ c < xs.length := by
      have := HTB.out
      exact ⟨(i.tmod xs.length).toNat, by omega, by omega⟩
    have HWR := hid hwr
    clear hwr
    go_upto_region 13 with fail
    rw [HWR.out]
    clear hneg
    obtain ⟨y, hy⟩ : ∃ y, xs[cN]? = some y := ⟨_, List.getElem?_eq_getElem hcN⟩
    obtain ⟨x0, x1, x2, x3, x4, x5, x6, x7, -⟩ := vfacts8 H4.out.st.r1
    obtain ⟨y0, y1, y2, y3, y4, y5, y6, y7⟩ := H4.out.at_ cN y (by rw [List.getElem?_append_left hcN]; exact hy)
    obtain ⟨cur, hcur⟩ := H4.out.blk
    have gz : ∀ q, w4.frozen? ⟨g, q, none⟩ = false := fun q => by simp [World.frozen?, hcur]
    have kg := lt_of hcur
    have hcc : (cN : Int) < (xs.length : Int) := by omega
    clear hy hcur
    go_upto_region 14 with fail
    refine cutG (fun W => Ck2 w W nm ar w1.heap.size (.slice (some ⟨g, 0, none⟩) xs.length c1) (xs.set cN x)) (ck2_start H4.out (by omega) hcN) ?_
    intro W0 H6
    have H6 := hid H6
    obtain ⟨t0, t1, t2, -⟩ := vfacts H6.out.t
    have hi2 : ∀ z ∈ xs.set cN x, InsOk z := fun z hz => (List.mem_or_eq_of_mem_set hz).elim (HI.out.1 z) (fun e => e ▸ HI.out.2)
    have HC2 := hid (fun S W hW => penc_sl nm ar S (xs.set cN x) W hW (by rw [List.length_set]; omega) hi2)
    have HD2 := hid (fun S W hW => renc_sl nm ar S (xs.set cN x) W hW (by rw [List.length_set]; omega) hi2)
    have hcl := encR_len nm ar (xs.set cN x) hi2
    generalize encR nm ar (xs.set cN x) = cs at HC2 HD2 hcl
    generalize (procChk nm ar (xs.set cN x)).2 = F at HC2 HD2
    unfold ESl at HC2 HD2
    have HB2 := hid (fun va vb W ha hb => bytes_same va vb cs W ha hb (by omega))
    clear hi2 H4 x0 x1 x2 x3 x4 x5 x6 x7 y0 y1 y2 y3 y4 y5 y6 y7 gz kg
    go_wp2_with (first
      | (go_at_call 14
         refine (HC2.out _ _ H6.out.co).mono ?_
         rintro e w7 ⟨v7, rfl, hs7, hb7⟩
         obtain ⟨a7, k7, rfl, -, -⟩ := id hs7
         have HS7 := hid hs7
         have H7 := hid (H6.out.below hb7)
         obtain ⟨t0, t1, t2, -⟩ := vfacts H7.out.t
         clear hb7 hs7)
      | (go_at_call 15
         refine (HD2.out _ _ H7.out.co).mono ?_
         rintro e w8 ⟨v8, rfl, hs8, hb8⟩
         obtain ⟨a8, k8, rfl, -, -⟩ := id hs8
         have HS8 := hid (And.intro (HS7.out.below hb8) hs8)
         have H8 := hid (H7.out.below hb8)
         clear hb8 hs8)
      | (go_at_call 16
         refine (HB2.out _ _ _ HS8.out.1 HS8.out.2).mono ?_
         rintro e w8' ⟨hd8, rfl⟩
         have H8' := hid (H8.out.below hd8.below)
         clear hd8)
      | (go_at_call 13
         refine (known_any _).mono ?_
         rintro e w9 ⟨rfl, hb9⟩
         have H9 := hid (below_on H8'.out.hb hb9)
         clear hb9))
    go_ret
    exact ⟨rfl, H9.out⟩

end Go.Proofs.Ytljfmbjibjoiiaa

namespace Go.Proofs.Ytljfmbjibjoiiaa
open Go.RowKit

theorem Try.cells5 : Try.prog.cellsOf 5 = 1 := by kernel_rfl

/-- An argument of bytes. -/
theorem bytes_of_trod {H : Type} {enc : TypeId × Value → H} {W : World} {base : Nat} {held : Bool} {ao : Option Addr} {len cap : Nat} {d : DataW H} {p : List MemPlace}
    (h : DataW.Trod enc Try.prog W base (fun _ => true) held 38 (.slice ao len cap) d p) : ∃ bs, Sn W (.slice ao len cap) bs ∧ Oct bs ∧ bs.length ≤ 9223372036854775807 := by
  obtain ⟨fuel, hf⟩ := h
  rcases Go.Deep.open_slice Try.underlying38 hf with ⟨hcs, _⟩ | ⟨a, len', cap', m, n, D, Pl, hcs, _, hl, hm, hmm, _, hx⟩
  · simp [Value.cells] at hcs
    obtain ⟨rfl, rfl, rfl⟩ := hcs
    exact ⟨[], sn_nil _, (fun x hx => nomatch hx), by simp⟩
  · simp [Value.cells] at hcs
    obtain ⟨rfl, rfl, rfl⟩ := hcs
    simp only [if_true] at hmm
    obtain rfl : cap = m := hmm.symm
    rw [Try.cells5] at hx
    have key : ∀ i, i < len → ∃ y : Int, (0 ≤ y ∧ y < 256) ∧ W.cell? ((a.add (i * 1)).add 0) = some (.int .u8 y) := by
      intro i hi
      obtain ⟨cs, h1, h2⟩ := hx i (by omega)
      obtain ⟨y, e0, _, w0⟩ := DataW.trod_int Try.underlying5 h2
      subst e0
      have b0 := bounds_u8 w0
      exact ⟨y, ⟨b0.1, by omega⟩, (World.cells?_some h1).2.2 0 (by omega)⟩
    obtain ⟨F, hF⟩ := Go.Deep.choose_lt key
    unfold maxLen at hm
    refine ⟨(List.range len).map F, ⟨⟨some a, cap, by simp, by simpa using hl, ?_⟩, .inr ⟨_, _, _, rfl⟩⟩, ?_, by simp; omega⟩
    · intro hne
      have hlen : 0 < len := by
        rcases Nat.eq_zero_or_pos len with h | h
        · subst h; simp at hne
        · exact h
      have h00 := (hF 0 hlen).2
      obtain ⟨b, off, rfl⟩ : ∃ b off, a = ⟨b, off, none⟩ := by
        obtain ⟨b, off, spot⟩ := a
        have hspot : spot = none := by simpa [Addr.add] using World.cell?_spot h00
        subst hspot
        exact ⟨b, off, rfl⟩
      refine ⟨b, off, rfl, ?_⟩
      intro j x hj
      rw [List.getElem?_map, Option.map_eq_some_iff] at hj
      obtain ⟨i, hi, rfl⟩ := hj
      have hij : i = j ∧ j < len := by
        rw [List.getElem?_eq_some_iff] at hi
        obtain ⟨q1, q2⟩ := hi
        simp at q1 q2
        exact ⟨q2.symm, q1⟩
      obtain ⟨rfl, hi2⟩ := hij
      have k := (hF i hi2).2
      rw [add_lit, add_lit] at k
      simpa using k
    · intro x hx2
      simp at hx2
      obtain ⟨i, hi, rfl⟩ := hx2
      exact (hF i hi).1

end Go.Proofs.Ytljfmbjibjoiiaa

namespace Go.Proofs.Ytljfmbjibjoiiaa
open Go.RowKit Go.WideShapes Go.ChangeAt Go.ChangeShapes

theorem Try.cells26 : Try.prog.cellsOf 26 = 3 := by kernel_rfl
theorem Try.cells28 : Try.prog.cellsOf 28 = 8 := by kernel_rfl
theorem Try.cells24 : Try.prog.cellsOf 24 = 3 := by kernel_rfl
theorem Try.cells22 : Try.prog.cellsOf 22 = 1 := by kernel_rfl
theorem Try.cells3 : Try.prog.cellsOf 3 = 1 := by kernel_rfl
theorem Try.cells2 : Try.prog.cellsOf 2 = 1 := by kernel_rfl
theorem Try.cells9 : Try.prog.cellsOf 9 = 1 := by kernel_rfl

set_option maxRecDepth 100000 in
theorem vl_of_trod {H : Type} {enc : TypeId × Value → H} {W : World} {base : Nat} {spare : Nat → Bool} {held : Bool} {fuel : Nat} {cs : List Value} {x : DataW H × List MemPlace}
    (h : DataW.trod enc Try.prog W base spare held fuel 26 cs = some x) : ∃ k i s, cs = [.int .i64 k, .int .i64 i, .string s] ∧ (-9223372036854775808 ≤ i ∧ i ≤ 9223372036854775807) ∧ s.size ≤ maxLen := by
  obtain ⟨xs, n, _, rfl, hl, hlen, hf⟩ := DataW.trod_struct Try.underlying26 h
  rw [Try.cells26] at hl
  match cs, hl, xs, hlen with
  | [c0, c1, c2], _, [y0, y1, y2], _ =>
    have f0 : DataW.trod enc Try.prog W base spare held n 3 (([c0, c1, c2].drop 0).take (Try.prog.cellsOf 3)) = some y0 := hf 0 _ rfl
    have f1 : DataW.trod enc Try.prog W base spare held n 2 (([c0, c1, c2].drop 1).take (Try.prog.cellsOf 2)) = some y1 := hf 1 _ rfl
    have f2 : DataW.trod enc Try.prog W base spare held n 9 (([c0, c1, c2].drop 2).take (Try.prog.cellsOf 9)) = some y2 := hf 2 _ rfl
    rw [Try.cells3] at f0
    rw [Try.cells2] at f1
    rw [Try.cells9] at f2
    obtain ⟨a0, e0, _, w0⟩ := DataW.trod_int Try.underlying3 (x := y0) (by simpa using f0)
    obtain ⟨a1, e1, _, w1⟩ := DataW.trod_int Try.underlying2 (x := y1) (by simpa using f1)
    obtain ⟨s, e2, _, w2⟩ := DataW.trod_string Try.underlying9 (x := y2) (by simpa using f2)
    simp at e0 e1 e2
    subst e0 e1 e2
    have b1 := bounds_i64 w1
    exact ⟨a0, a1, s, rfl, ⟨b1.1, by omega⟩, w2⟩

set_option maxRecDepth 100000 in
theorem ins_of_trod {H : Type} {enc : TypeId × Value → H} {W : World} {base : Nat} {spare : Nat → Bool} {held : Bool} {fuel : Nat} {cs : List Value} {x : DataW H × List MemPlace}
    (h : DataW.trod enc Try.prog W base spare held fuel 28 cs = some x) : ∃ y : Ins, InsOk y ∧ cs = y.cells := by
  obtain ⟨xs, n, _, rfl, hl, hlen, hf⟩ := DataW.trod_struct Try.underlying28 h
  rw [Try.cells28] at hl
  match cs, hl, xs, hlen with
  | [c0, c1, c2, c3, c4, c5, c6, c7], _, [y0, y1, y2, y3, y4, y5], _ =>
    have f0 : DataW.trod enc Try.prog W base spare held n 3 (([c0, c1, c2, c3, c4, c5, c6, c7].drop 0).take (Try.prog.cellsOf 3)) = some y0 := hf 0 _ rfl
    have f1 : DataW.trod enc Try.prog W base spare held n 3 (([c0, c1, c2, c3, c4, c5, c6, c7].drop 1).take (Try.prog.cellsOf 3)) = some y1 := hf 1 _ rfl
    have f2 : DataW.trod enc Try.prog W base spare held n 3 (([c0, c1, c2, c3, c4, c5, c6, c7].drop 2).take (Try.prog.cellsOf 3)) = some y2 := hf 2 _ rfl
    have f3 : DataW.trod enc Try.prog W base spare held n 3 (([c0, c1, c2, c3, c4, c5, c6, c7].drop 3).take (Try.prog.cellsOf 3)) = some y3 := hf 3 _ rfl
    have f4 : DataW.trod enc Try.prog W base spare held n 3 (([c0, c1, c2, c3, c4, c5, c6, c7].drop 4).take (Try.prog.cellsOf 3)) = some y4 := hf 4 _ rfl
    have f5 : DataW.trod enc Try.prog W base spare held n 26 (([c0, c1, c2, c3, c4, c5, c6, c7].drop 5).take (Try.prog.cellsOf 26)) = some y5 := hf 5 _ rfl
    rw [Try.cells3] at f0 f1 f2 f3 f4
    rw [Try.cells26] at f5
    obtain ⟨a0, e0, _, _⟩ := DataW.trod_int Try.underlying3 (x := y0) (by simpa using f0)
    obtain ⟨a1, e1, _, _⟩ := DataW.trod_int Try.underlying3 (x := y1) (by simpa using f1)
    obtain ⟨a2, e2, _, _⟩ := DataW.trod_int Try.underlying3 (x := y2) (by simpa using f2)
    obtain ⟨a3, e3, _, _⟩ := DataW.trod_int Try.underlying3 (x := y3) (by simpa using f3)
    obtain ⟨a4, e4, _, _⟩ := DataW.trod_int Try.underlying3 (x := y4) (by simpa using f4)
    obtain ⟨k, i, s, e5, hi, _⟩ := vl_of_trod f5
    simp at e0 e1 e2 e3 e4 e5
    obtain ⟨e5, e6, e7⟩ := e5
    subst e0 e1 e2 e3 e4 e5 e6 e7
    exact ⟨⟨a0, a1, a2, a3, a4, k, i, s⟩, ⟨hi.1, by have := hi.2; show i < 9223372036854775808; omega⟩, rfl⟩

instance : Inhabited Ins := ⟨stopI⟩

set_option maxRecDepth 100000 in
/-- A procedure as an argument. -/
theorem proc_of_trod {H : Type} {enc : TypeId × Value → H} {W : World} {base b2 : Nat} {held : Bool} {v : Value} {d : DataW H} {p : List MemPlace} (hv : Value.okWide Try.prog W .any b2 24 v)
    (h : DataW.Trod enc Try.prog W base (fun _ => true) held 24 v d p) : ∃ (nm : ByteArray) (ar : Int) (S : Value) (xs : List Ins), v = .agg #[.string nm, .int .i64 ar, S] ∧ Rf W 8 S xs.length (xs.flatMap Ins.cells) ∧ (∀ x ∈ xs, InsOk x) := by
  obtain ⟨⟨cs⟩, rfl, _⟩ := okWide_struct Try.underlying24 hv
  obtain ⟨fuel, hf0⟩ := h
  have hf0 : DataW.trod enc Try.prog W base (fun _ => true) held fuel 24 cs = some (d, p) := by simpa [Value.cells] using hf0
  obtain ⟨xs, n, _, hd, hl, hlen, hf⟩ := DataW.trod_struct Try.underlying24 hf0
  rw [Try.cells24] at hl
  match cs, hl, xs, hlen with
  | [c0, c1, c2], _, [y0, y1, y2], _ =>
    have f0 : DataW.trod enc Try.prog W base (fun _ => true) held n 9 (([c0, c1, c2].drop 0).take (Try.prog.cellsOf 9)) = some y0 := hf 0 _ rfl
    have f1 : DataW.trod enc Try.prog W base (fun _ => true) held n 3 (([c0, c1, c2].drop 1).take (Try.prog.cellsOf 3)) = some y1 := hf 1 _ rfl
    have f2 : DataW.trod enc Try.prog W base (fun _ => true) held n 22 (([c0, c1, c2].drop 2).take (Try.prog.cellsOf 22)) = some y2 := hf 2 _ rfl
    rw [Try.cells9] at f0
    rw [Try.cells3] at f1
    rw [Try.cells22] at f2
    obtain ⟨s, e0, _, _⟩ := DataW.trod_string Try.underlying9 (x := y0) (by simpa using f0)
    obtain ⟨a1, e1, _, _⟩ := DataW.trod_int Try.underlying3 (x := y1) (by simpa using f1)
    obtain ⟨S, ys, e2, hR, hO⟩ := rf_of_trod Ins.cells InsOk 8 ins_cells ins_one Try.underlying22 Try.cells28 (fun _ _ _ h => ins_of_trod h) f2
    simp at e0 e1 e2
    subst e0 e1 e2
    exact ⟨s, a1, _, ys, rfl, hR, hO⟩

set_option maxRecDepth 100000 in
/-- An instruction as an argument. -/
theorem instr_of_trod {H : Type} {enc : TypeId × Value → H} {W : World} {base b2 : Nat} {held : Bool} {v : Value} {d : DataW H} {p : List MemPlace} (hv : Value.okWide Try.prog W .any b2 28 v)
    (h : DataW.Trod enc Try.prog W base (fun _ => true) held 28 v d p) : ∃ x : Ins, v = x.val ∧ InsOk x := by
  obtain ⟨⟨cs⟩, rfl, _⟩ := okWide_struct Try.underlying28 hv
  obtain ⟨fuel, hf⟩ := h
  obtain ⟨x, h1, h2⟩ := ins_of_trod hf
  refine ⟨x, ?_, h1⟩
  have h4 : cs = x.cells := by simpa [Value.cells] using h2
  rw [h4]
  rfl

end Go.Proofs.Ytljfmbjibjoiiaa

namespace Go.Proofs.Ytljfmbjibjoiiaa
open Go.ChangeShapes Go.WideShapes Go.ChangeAt Go.RowKit

set_option maxRecDepth 100000 in
set_option maxHeartbeats 1600000 in
theorem encodes_any (nm : ByteArray) (ar : Int) (S : Value) (xs : List Ins) (x : Ins) (i : Int) (w : World) (h : Rf w 8 S xs.length (xs.flatMap Ins.cells)) (hi : ∀ x ∈ xs, InsOk x) (hx : InsOk x) :
    Calls Try.prog 4 #[.agg #[.string nm, .int .i64 ar, S], x.val, .int .i64 i] w fun x w' => x = .returned (.bool true) ∧ Below w.heap.size w w' := by
  by_cases hl : (xs.length : Int) ≤ 65536
  · exact encodes_ok nm ar S xs x i w h hi hx hl
  · have hl3 : (65536 : Int) < (xs.length : Int) := by omega
    obtain ⟨ao, cap, rfl, _, _⟩ := h.shape
    have H0 := hid (bst_start w nm ar (.slice ao xs.length cap) x)
    unfold Ins.val
    clear h hi hx
    go_enter Try.func4, Try.ntmps4
    go_wp2
    go_ret
    exact ⟨rfl, H0.out.hb⟩

theorem Try.own : ownKnob Try.prog.godebug = none := by kernel_rfl
theorem Try.laidOut : laidOutB Try.prog = true := by kernel_rfl

set_option maxRecDepth 100000 in
theorem encodes_lifted (os : Os) (started : os.Started) (H : Type) (enc : TypeId × Value → H) :
    ReturnsInHanded {} Try.checked os 4 .any (Rows.procEncodesSpec.pre6 enc Try.prog Try.f4 Rows.procEncodesRow.domain false) (Rows.procEncodesSpec.post enc Try.prog Try.f4 false true false false) := by
  refine returnsInHanded_of_change (C := Try.checked) Try.own started (by kernel_rfl) Try.func4
    (ChangeSpec.witness6 (enc := enc) (C := Try.checked) false ⟨#[], #[.agg #[.string .empty, .int .i64 0, .slice none 0 0], .agg #[.int .i64 0, .int .i64 0, .int .i64 0, .int .i64 0, .int .i64 0, .int .i64 0, .int .i64 0, .string .empty], .int .i64 0], []⟩ 8 (by kernel_rfl) (by kernel_rfl) (by kernel_rfl) (by kernel_rfl)) ?_
  intro W base args ds gs before hval0 hW hcnd _
  have hval : ∀ (j : Nat) t v, Try.f4.params[j]? = some t → args[j]? = some v → Value.okWide Try.prog W .any base t v := hval0
  have hW' := hW
  obtain ⟨p, q, hA0, hV, rfl, hfz, hnd⟩ := hW
  have hA : DataW.TrodAll enc Try.prog W 0 (fun _ => true) true Try.f4.params.toList args.toList ds p := hA0
  rw [Try.params4] at hA hval
  obtain ⟨v0, vs0, d0, ds0, p0, q0, hargs, rfl, rfl, h0, r0⟩ := trodAll_cons hA
  obtain ⟨v1, vs1, d1, ds1, p1, q1, rfl, rfl, rfl, h1, r1⟩ := trodAll_cons r0
  obtain ⟨v2, vs2, d2, ds2, p2, q2, rfl, rfl, rfl, h2, r2⟩ := trodAll_cons r1
  obtain ⟨rfl, rfl, rfl⟩ := trodAll_nil r2
  obtain rfl : args = #[v0, v1, v2] := by cases args; simp_all
  obtain ⟨rfl, rfl⟩ := trodVars_none hV
  have k0 := h0
  have k1 := h1
  have lt0 : ∀ x ∈ p0, x.block < W.heap.size := by obtain ⟨m, hm⟩ := k0; exact DataW.trod_lt m _ _ _ hm
  have lt1 : ∀ x ∈ p1, x.block < W.heap.size := by obtain ⟨m, hm⟩ := k1; exact DataW.trod_lt m _ _ _ hm
  obtain ⟨nm, ar, S, xs, rfl, hS, hxs⟩ := proc_of_trod (hval 0 24 v0 rfl rfl) h0
  obtain ⟨x, rfl, hx⟩ := instr_of_trod (hval 1 28 v1 rfl rfl) h1
  obtain ⟨a2, rfl, rfl, rfl, w2⟩ := open_int Try.underlying3 (hval 2 3 v2 rfl rfl) h2
  clear hA0 hval0
  refine (encodes_any nm ar S xs x a2 W hS hxs hx).mono fun e W' ⟨he, bel⟩ => ?_
  subst he
  exact ⟨_, rfl, _, _, _, [], _, [], hW', trodAll_mk1 (shut_bool Try.underlying4 _), (trodAll_cons_mk (Below.trod Try.laidOut (by kernel_rfl) (of_decide_eq_true (by kernel_rfl)) k0 bel lt0) (trodAll_cons_mk (Below.trod Try.laidOut (by kernel_rfl) (of_decide_eq_true (by kernel_rfl)) k1 bel lt1) (trodAll_cons_mk (shut_int Try.underlying3 w2) trodAll_mk0))), rfl, bel.frame _, fun h => by cases h⟩

theorem procEncodes_holds : Rows.ProcEncodesSaid :=
  OpenClaim.holds_of_wide 4 Try.f4 rfl rfl rfl rfl rfl rfl rfl ⟨rfl, rfl, rfl, rfl, rfl⟩ rfl rfl rfl rfl rfl (by kernel_rfl) Try.func4 (by kernel_rfl)
    (of_decide_eq_true (by kernel_rfl)) (by unfold Func.isWrapper; first | (rw [if_pos (by decide +kernel)]; kernel_rfl) | (rw [if_neg (by decide +kernel)]; exact ⟨rfl, rfl⟩))
    (fun os started H enc _ => encodes_lifted os started H enc)

#print axioms procEncodes_holds
end Go.Proofs.Ytljfmbjibjoiiaa
