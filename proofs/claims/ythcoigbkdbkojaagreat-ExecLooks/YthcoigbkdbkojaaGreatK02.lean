import Derived.Test.YthcoigbkdbkojaaGreatK01
import Derived.Laws.EntriesVeiled
namespace Go.Proofs.YthcoigbkdbkojaaGreat
open Go.RowKit

abbrev emp : ByteArray := ⟨#[]⟩

theorem chd_cases (k i : Int) (s : ByteArray) : (k = 1 ∧ s = emp ∧ chd k i s = .iface 181 (.int .i64 i)) ∨ (k = 2 ∧ i = 0 ∧ s.size ≤ 256 ∧ chd k i s = .iface 182 (.string s)) ∨
    (chd k i s = .nilIface ∧ ¬ (k = 1 ∧ s = emp) ∧ ¬ (k = 2 ∧ i = 0 ∧ s.size ≤ 256)) := by
  unfold chd
  by_cases h1 : k = 1
  · subst h1
    by_cases hs : s = emp
    · subst hs
      exact .inl ⟨rfl, rfl, by simp [chk, thing]⟩
    · exact .inr (.inr ⟨by simp [chk, hs], by simp [hs], by simp⟩)
  · by_cases h2 : k = 2
    · subst h2
      by_cases hi : i = 0
      · subst hi
        by_cases hg : 256 < s.size
        · exact .inr (.inr ⟨by simp [chk, hg], by simp, by simp; omega⟩)
        · exact .inr (.inl ⟨rfl, rfl, by omega, by simp [chk, hg, thing]⟩)
      · exact .inr (.inr ⟨by simp [chk, hi], by simp, by simp [hi]⟩)
    · refine .inr (.inr ⟨?_, by simp [h1], by simp [h2]⟩)
      split
      · exact thing0 i s h1 h2
      · rfl

theorem three (w : World) (a b c : Obj) : (((w.alloc a).alloc b).alloc c).heap[w.heap.size]? = some a ∧ (((w.alloc a).alloc b).alloc c).heap[w.heap.size + 1]? = some b ∧
    (((w.alloc a).alloc b).alloc c).heap[w.heap.size + 1 + 1]? = some c ∧ Below w.heap.size w (((w.alloc a).alloc b).alloc c) := by
  refine ⟨?_, ?_, ?_, (below2 w a b).alloc (by simp; omega) c⟩
  · rw [Below.heap_alloc _ _ _ (by simp; omega)]; exact two1 w a b
  · rw [Below.heap_alloc _ _ _ (by simp)]; exact two2 w a b
  · have := heap_alloc_new ((w.alloc a).alloc b) c
    simpa using this

theorem below_on {w0 w w1 : World} (h0 : Below w0.heap.size w0 w) (h : Below w.heap.size w w1) : Below w0.heap.size w0 w1 := h0.trans (h.mono h0.size)

set_option maxRecDepth 100000 in
set_option maxHeartbeats 800000 in
theorem sum_any (x y : Int) (w : World) : Calls Tryz.prog 163 #[.int .i64 x, .int .i64 y] w fun e w' => e = .returned (.tuple #[.int .i64 (wrap64 (x + y)), .bool (decide (x < wrap64 (x + y)) == decide (0 < y))]) ∧ w' = w := by
  go_enter Tryz.func163, Tryz.ntmps163
  go_wp2
  go_ret2
  exact ⟨rfl, rfl⟩

set_option maxRecDepth 100000 in
set_option maxHeartbeats 800000 in
theorem diff_any (x y : Int) (w : World) : Calls Tryz.prog 164 #[.int .i64 x, .int .i64 y] w fun e w' => e = .returned (.tuple #[.int .i64 (wrap64 (x - y)), .bool (decide (wrap64 (x - y) < x) == decide (0 < y))]) ∧ w' = w := by
  go_enter Tryz.func164, Tryz.ntmps164
  go_wp2
  go_ret2
  exact ⟨rfl, rfl⟩

set_option maxRecDepth 100000 in
set_option maxHeartbeats 800000 in
theorem size_any (x : Int) (w : World) (h0 : -9223372036854775808 ≤ x) (h1 : x ≤ 9223372036854775807) : Calls Tryz.prog 183 #[.int .i64 x] w fun e w' => e = .returned (.int .u64 (x.natAbs : Nat)) ∧ w' = w := by
  by_cases hx : x < 0
  · go_enter Tryz.func183, Tryz.ntmps183
    go_wp2
    go_ret
    refine ⟨?_, rfl⟩
    have : IntKind.u64.wrap (-IntKind.u64.wrap x) = (x.natAbs : Int) := by
      rw [IntKind.wrap_u64, IntKind.wrap_u64]; omega
    rw [← this]
    rfl
  · go_enter Tryz.func183, Tryz.ntmps183
    go_wp2
    go_ret
    refine ⟨?_, rfl⟩
    have : x = (x.natAbs : Int) := by omega
    rw [← this]
    rfl

theorem sliteClone_any (s : ByteArray) (w : World) (hlim : s.size ≤ 281474976710656) :
    Calls Tryz.prog 115 #[.string s] w fun e w' => e = .returned (.string s) ∧ Below w.heap.size w w' := Any.stringslite_Clone Tryz.laysM316 s w hlim

set_option maxRecDepth 100000 in
set_option maxHeartbeats 800000 in
theorem strClone_any (s : ByteArray) (w : World) (hlim : s.size ≤ 281474976710656) :
    Calls Tryz.prog 70 #[.string s] w fun e w' => e = .returned (.string s) ∧ Below w.heap.size w w' := by
  go_enter Tryz.func70, Tryz.ntmps70
  go_wp2_with (go_at_call 115; refine (sliteClone_any s _ hlim).mono ?_; rintro e w' ⟨rfl, hb⟩)
  go_ret
  exact ⟨rfl, hb⟩

/-- Is a text a key? -/
def isKeyB (s : ByteArray) : Bool := decide (0 < s.size ∧ s.size ≤ 64)

set_option maxRecDepth 100000 in
set_option maxHeartbeats 800000 in
theorem isKey_any (s : ByteArray) (w : World) : Calls Tryz.prog 180 #[.string s] w fun e w' => e = .returned (.bool (isKeyB s)) ∧ w' = w := by
  obtain ⟨b, hb⟩ : ∃ b, b = isKeyB s := ⟨_, rfl⟩
  rw [← hb]
  have HB := hid hb
  clear hb
  by_cases h0 : (0 : Int) < s.size
  · by_cases h1 : (s.size : Int) ≤ 64
    · go_enter Tryz.func180, Tryz.ntmps180
      go_wp2
      go_ret
      exact ⟨by rw [HB.out, show isKeyB s = true by unfold isKeyB; simp; omega]; rfl, rfl⟩
    · go_enter Tryz.func180, Tryz.ntmps180
      go_wp2
      go_ret
      exact ⟨by rw [HB.out, show isKeyB s = false by unfold isKeyB; simp; omega]; rfl, rfl⟩
  · go_enter Tryz.func180, Tryz.ntmps180
    go_wp2
    go_ret
    exact ⟨by rw [HB.out, show isKeyB s = false by unfold isKeyB; simp; omega]; rfl, rfl⟩

end Go.Proofs.YthcoigbkdbkojaaGreat

namespace Go.Proofs.YthcoigbkdbkojaaGreat
open Go.RowKit

/-- Is a number within 64 binary digits? -/
def inR (z : Int) : Bool := decide (-9223372036854775808 ≤ z ∧ z ≤ 9223372036854775807)

/-- What a way to reckon answers of x and y: v, if that is within 64 digits. -/
def Reck (F : Nat) (x y v : Int) : Prop := ∀ w : World, Calls Tryz.prog F #[.int .i64 x, .int .i64 y] w fun e w' => (∃ z, e = .returned (.tuple #[.int .i64 z, .bool (inR v)]) ∧ (inR v = true → z = v)) ∧ w' = w

theorem sum_reck (x y : Int) (hx : inR x = true) (hy : inR y = true) : Reck 163 x y (x + y) := by
  intro w
  refine (sum_any x y w).mono ?_
  rintro e w' ⟨rfl, rfl⟩
  unfold inR at *
  simp at hx hy
  refine ⟨⟨wrap64 (x + y), ?_, ?_⟩, rfl⟩
  · have e : (decide (x < wrap64 (x + y)) == decide (0 < y)) = decide (-9223372036854775808 ≤ x + y ∧ x + y ≤ 9223372036854775807) := by
      rw [Bool.eq_iff_iff]
      simp [wrap64]
      omega
    rw [e]
  · intro h
    simp at h
    simp [wrap64]
    omega

theorem diff_reck (x y : Int) (hx : inR x = true) (hy : inR y = true) : Reck 164 x y (x - y) := by
  intro w
  refine (diff_any x y w).mono ?_
  rintro e w' ⟨rfl, rfl⟩
  unfold inR at *
  simp at hx hy
  refine ⟨⟨wrap64 (x - y), ?_, ?_⟩, rfl⟩
  · have e : (decide (wrap64 (x - y) < x) == decide (0 < y)) = decide (-9223372036854775808 ≤ x - y ∧ x - y ≤ 9223372036854775807) := by
      rw [Bool.eq_iff_iff]
      simp [wrap64]
      omega
    rw [e]
  · intro h
    simp at h
    simp [wrap64]
    omega

theorem mul_abs (x y : Int) : ((x.natAbs * y.natAbs : Nat) : Int) = if (x < 0) = (y < 0) then x * y else -(x * y) := by
  rcases Int.lt_or_le x 0 with hx | hx <;> rcases Int.lt_or_le y 0 with hy | hy
  · rw [if_pos (by simp [hx, hy])]
    rw [Int.natCast_mul, show (x.natAbs : Int) = -x by omega, show (y.natAbs : Int) = -y by omega, Int.neg_mul_neg]
  · rw [if_neg (by simp [hx]; omega)]
    rw [Int.natCast_mul, show (x.natAbs : Int) = -x by omega, show (y.natAbs : Int) = y by omega, Int.neg_mul]
  · rw [if_neg (by simp [hy]; omega)]
    rw [Int.natCast_mul, show (x.natAbs : Int) = x by omega, show (y.natAbs : Int) = -y by omega, Int.mul_neg]
  · rw [if_pos (by simp; omega)]
    rw [Int.natCast_mul, show (x.natAbs : Int) = x by omega, show (y.natAbs : Int) = y by omega]

end Go.Proofs.YthcoigbkdbkojaaGreat

namespace Go.Proofs.YthcoigbkdbkojaaGreat
open Go.RowKit

/-- What comes of two integers. -/
def rckV (v : Int) : Value := if inR v = true then .tuple #[vl 1 v emp, .int .i64 0] else .tuple #[vl 0 0 emp, .int .i64 15]

/-- Is a value an integer? -/
def isI (k : Int) (s : ByteArray) : Bool := decide (k = 1 ∧ s = emp)

theorem ta_chd (k i : Int) (s : ByteArray) : ∃ x, (isI k s = true → x = i) ∧ ∀ w : World, (Instr.typeAssert (chd k i s) 159 181 true).run Tryz.prog w = .ok (.tuple #[.int .i64 x, .bool (isI k s)]) w := by
  rcases chd_cases k i s with ⟨rfl, rfl, h⟩ | ⟨rfl, rfl, h2, h⟩ | ⟨h, h1, h2⟩
  · refine ⟨i, fun _ => rfl, fun w => ?_⟩
    rw [h, ta60, show isI 1 emp = true by simp [isI]]
  · refine ⟨0, fun h => by simp [isI] at h, fun w => ?_⟩
    rw [h, ta6260, show isI 2 s = false by simp [isI]]
  · have e : isI k s = false := by simpa [isI] using h1
    refine ⟨0, fun h => (by rw [e] at h; cases h), fun w => ?_⟩
    rw [h, tan60, e]

/-- What a reckoning answers. -/
def rckT (a b : Bool) (v : Int) : Value := if (a && b) = true then rckV v else .tuple #[vl 0 0 emp, .int .i64 14]

set_option maxRecDepth 100000 in
set_option maxHeartbeats 1600000 in
theorem reckon_any (F : Nat) (k i : Int) (s : ByteArray) (l j : Int) (t : ByteArray) (v : Int) (hF : isI k s = true → isI l t = true → Reck F i j v) (hE : ∀ args w, (callFunc F args).run Tryz.prog w = .ok (.enter F args) w) (w : World) :
    Calls Tryz.prog 162 #[.func (.func F) #[] #[], vl k i s, vl l j t] w fun e w' => e = .returned (rckT (isI k s) (isI l t) v) ∧ Below w.heap.size w w' := by
  obtain ⟨hA, hB, hC, h0⟩ := three w (vo k i s) (vo l j t) (vo 0 0 emp)
  have HB := hid hB
  have HC := hid hC
  have H0 := hid h0
  clear hA hB hC h0
  obtain ⟨x, hx, qx⟩ := ta_chd k i s
  obtain ⟨y, hy, qy⟩ := ta_chd l j t
  have ha := checked_any k i s
  have hb := checked_any l j t
  obtain ⟨ca, hca⟩ : ∃ ca, ca = chd k i s := ⟨_, rfl⟩
  obtain ⟨cb, hcb⟩ : ∃ cb, cb = chd l j t := ⟨_, rfl⟩
  obtain ⟨ba, hba⟩ : ∃ ba, ba = isI k s := ⟨_, rfl⟩
  obtain ⟨bb, hbb⟩ : ∃ bb, bb = isI l t := ⟨_, rfl⟩
  rw [← hca] at ha qx
  rw [← hcb] at hb qy
  rw [← hba] at qx hx hF ⊢
  rw [← hbb] at qy hy hF ⊢
  have PA := hid ha
  have PB := hid hb
  clear ha hb hca hcb hba hbb
  have armA : ∀ w1 : World, Below (((w.alloc (vo k i s)).alloc (vo l j t)).alloc (vo 0 0 emp)).heap.size (((w.alloc (vo k i s)).alloc (vo l j t)).alloc (vo 0 0 emp)) w1 → w1.heap[w.heap.size + 1]? = some (vo l j t) ∧ w1.heap[w.heap.size + 1 + 1]? = some (vo 0 0 emp) ∧ Below w.heap.size w w1 := by
    intro w1 h
    exact ⟨blk_of h HB.out (by simp), blk_of h HC.out (by simp), below_on H0.out h⟩
  have HArm := hid armA
  clear armA HB HC H0
  by_cases hab : (ba && bb) = true
  · have e1 : ba = true := by revert hab; cases ba <;> simp
    have e2 : bb = true := by revert hab; cases bb <;> simp
    subst e1
    subst e2
    have ex : i = x := (hx rfl).symm
    have ey : j = y := (hy rfl).symm
    subst ex
    subst ey
    have HF := hid (hF rfl rfl)
    clear hx hy hF hab
    obtain ⟨r, hr⟩ : ∃ r, r = inR v := ⟨_, rfl⟩
    have HR := hid hr
    clear hr
    cases r
    · go_enter Tryz.func162, Tryz.ntmps162
      go_wp2_with (first
        | (go_at_call 166
           (with_reducible show Calls _ _ #[vl k i s] _ _)
           refine (PA.out _).mono ?_
           rintro e w1 ⟨rfl, hb1⟩
           obtain ⟨g1, g2, g3⟩ := HArm.out w1 hb1
           obtain ⟨d0, d1, d2, -⟩ := vfacts g1
           have H1 := hid (And.intro g2 g3)
           clear hb1 g1 g2 g3 HArm)
        | (go_at_call 166
           refine (PB.out _).mono ?_
           rintro e w2 ⟨rfl, hb2⟩
           have g2 := blk_of hb2 H1.out.1 (lt_of H1.out.1)
           obtain ⟨c0, c1, c2, ff⟩ := vfacts g2
           have H2 := hid (And.intro g2 (below_on H1.out.2 hb2))
           clear hb2 g2)
        | (go_at_fn F
           refine (HF.out _).mono ?_
           rintro e w3 ⟨⟨z, rfl, -⟩, e3⟩
           rw [e3]
           rw [← HR.out]
           clear e3 w3))
      refine bodyPost_ret (ret_agg2 Tryz.results162 rfl (set3 H2.out.1 _ _ _)) rfl ?_
      exact ⟨by simp [rckT, rckV, ← HR.out], Below.set3 H2.out.2 (by omega) _ _ _⟩
    · go_enter Tryz.func162, Tryz.ntmps162
      go_wp2_with (first
        | (go_at_call 166
           (with_reducible show Calls _ _ #[vl k i s] _ _)
           refine (PA.out _).mono ?_
           rintro e w1 ⟨rfl, hb1⟩
           obtain ⟨g1, g2, g3⟩ := HArm.out w1 hb1
           obtain ⟨d0, d1, d2, -⟩ := vfacts g1
           have H1 := hid (And.intro g2 g3)
           clear hb1 g1 g2 g3 HArm)
        | (go_at_call 166
           refine (PB.out _).mono ?_
           rintro e w2 ⟨rfl, hb2⟩
           have g2 := blk_of hb2 H1.out.1 (lt_of H1.out.1)
           obtain ⟨c0, c1, c2, ff⟩ := vfacts g2
           have H2 := hid (And.intro g2 (below_on H1.out.2 hb2))
           clear hb2 g2)
        | (go_at_fn F
           refine (HF.out _).mono ?_
           rintro e w3 ⟨⟨z, rfl, hz⟩, e3⟩
           have hz2 := hz HR.out.symm
           rw [e3, hz2]
           rw [← HR.out]
           clear e3 w3 hz hz2)
        | (go_at_call 181
           refine (ivalue_any _ _).mono ?_
           rintro e w4 ⟨rfl, hb4⟩
           have g4 := blk_of hb4 H2.out.1 (lt_of H2.out.1)
           obtain ⟨c0, c1, c2, ff⟩ := vfacts g4
           have H4 := hid (And.intro g4 (below_on H2.out.2 hb4))
           clear hb4 g4))
      refine bodyPost_ret (ret_agg2 Tryz.results162 rfl (set3 H4.out.1 _ _ _)) rfl ?_
      exact ⟨by simp [rckT, rckV, ← HR.out], Below.set3 H4.out.2 (by omega) _ _ _⟩
  · have e3 : rckT ba bb v = .tuple #[vl 0 0 emp, .int .i64 14] := by unfold rckT; rw [if_neg hab]
    rw [e3]
    clear e3 hx hy hF
    revert hab
    cases ba <;> cases bb <;> intro hab
    case true.true => exact absurd rfl hab
    all_goals
      clear hab
      go_enter Tryz.func162, Tryz.ntmps162
      go_wp2_with (first
        | (go_at_call 166
           (with_reducible show Calls _ _ #[vl k i s] _ _)
           refine (PA.out _).mono ?_
           rintro e w1 ⟨rfl, hb1⟩
           obtain ⟨g1, g2, g3⟩ := HArm.out w1 hb1
           obtain ⟨d0, d1, d2, -⟩ := vfacts g1
           have H1 := hid (And.intro g2 g3)
           clear hb1 g1 g2 g3 HArm)
        | (go_at_call 166
           refine (PB.out _).mono ?_
           rintro e w2 ⟨rfl, hb2⟩
           have g2 := blk_of hb2 H1.out.1 (lt_of H1.out.1)
           obtain ⟨c0, c1, c2, ff⟩ := vfacts g2
           have H2 := hid (And.intro g2 (below_on H1.out.2 hb2))
           clear hb2 g2))
      refine bodyPost_ret (ret_agg2 Tryz.results162 rfl (set3 H2.out.1 _ _ _)) rfl ?_
      exact ⟨rfl, Below.set3 H2.out.2 (by omega) _ _ _⟩

end Go.Proofs.YthcoigbkdbkojaaGreat

namespace Go.Proofs.YthcoigbkdbkojaaGreat
open Go.RowKit

theorem rckT_shape (a b : Bool) (v : Int) : ∃ x y z u, rckT a b v = .tuple #[vl x y z, .int .i64 u] := by
  unfold rckT rckV
  split
  · split
    · exact ⟨_, _, _, _, rfl⟩
    · exact ⟨_, _, _, _, rfl⟩
  · exact ⟨_, _, _, _, rfl⟩

set_option maxRecDepth 100000 in
set_option maxHeartbeats 800000 in
theorem add_any (k i : Int) (s : ByteArray) (l j : Int) (t : ByteArray) (hi : inR i = true) (hj : inR j = true) (w : World) :
    Calls Tryz.prog 125 #[vl k i s, vl l j t] w fun e w' => e = .returned (rckT (isI k s) (isI l t) (i + j)) ∧ Below w.heap.size w w' := by
  obtain ⟨-, -, hC, h0⟩ := three w (vo k i s) (vo l j t) (vo 0 0 emp)
  have HC := hid hC
  have H0 := hid h0
  clear hC h0
  have hr := hid (reckon_any 163 k i s l j t (i + j) (fun _ _ => sum_reck i j hi hj) (enters_of Tryz.func163 (by kernel_rfl) rfl))
  have hsh := hid (rckT_shape (isI k s) (isI l t) (i + j))
  go_enter Tryz.func125, Tryz.ntmps125
  go_wp2_with (
    go_at_call 162
    refine (hr.out _).mono ?_
    rintro e w1 ⟨rfl, hb1⟩
    obtain ⟨a, b, c, d, hs⟩ := hsh.out
    rw [hs]
    have g2 := blk_of hb1 HC.out (by simp)
    obtain ⟨c0, c1, c2, ff⟩ := vfacts g2
    have HS := hid hs
    have H1 := hid (And.intro g2 (below_on H0.out hb1))
    clear hb1 g2 hs)
  refine bodyPost_ret (ret_agg2 Tryz.results125 rfl (set3 H1.out.1 _ _ _)) rfl ?_
  exact ⟨by rw [HS.out]; rfl, Below.set3 H1.out.2 (by omega) _ _ _⟩

set_option maxRecDepth 100000 in
set_option maxHeartbeats 800000 in
theorem sub_any (k i : Int) (s : ByteArray) (l j : Int) (t : ByteArray) (hi : inR i = true) (hj : inR j = true) (w : World) :
    Calls Tryz.prog 126 #[vl k i s, vl l j t] w fun e w' => e = .returned (rckT (isI k s) (isI l t) (i - j)) ∧ Below w.heap.size w w' := by
  obtain ⟨-, -, hC, h0⟩ := three w (vo k i s) (vo l j t) (vo 0 0 emp)
  have HC := hid hC
  have H0 := hid h0
  clear hC h0
  have hr := hid (reckon_any 164 k i s l j t (i - j) (fun _ _ => diff_reck i j hi hj) (enters_of Tryz.func164 (by kernel_rfl) rfl))
  have hsh := hid (rckT_shape (isI k s) (isI l t) (i - j))
  go_enter Tryz.func126, Tryz.ntmps126
  go_wp2_with (
    go_at_call 162
    refine (hr.out _).mono ?_
    rintro e w1 ⟨rfl, hb1⟩
    obtain ⟨a, b, c, d, hs⟩ := hsh.out
    rw [hs]
    have g2 := blk_of hb1 HC.out (by simp)
    obtain ⟨c0, c1, c2, ff⟩ := vfacts g2
    have HS := hid hs
    have H1 := hid (And.intro g2 (below_on H0.out hb1))
    clear hb1 g2 hs)
  refine bodyPost_ret (ret_agg2 Tryz.results126 rfl (set3 H1.out.1 _ _ _)) rfl ?_
  exact ⟨by rw [HS.out]; rfl, Below.set3 H1.out.2 (by omega) _ _ _⟩

/-- The key that a value is. -/
def keyV (k i : Int) (s : ByteArray) : Value := if k = 2 ∧ i = 0 ∧ s.size ≤ 256 then (if isKeyB s = true then .tuple #[.string s, .int .i64 0] else .tuple #[.string emp, .int .i64 5]) else .tuple #[.string emp, .int .i64 14]

set_option maxRecDepth 100000 in
set_option maxHeartbeats 800000 in
theorem key_any (k i : Int) (s : ByteArray) (w : World) : Calls Tryz.prog 160 #[vl k i s] w fun e w' => e = .returned (keyV k i s) ∧ Below w.heap.size w w' := by
  have hB0 := hid (below1 w (vo k i s))
  have q1 := ta6062
  have q2 := ta62
  have q3 := tan62
  have ha := checked_any k i s
  rcases chd_cases k i s with ⟨rfl, rfl, h⟩ | ⟨rfl, rfl, h2, h⟩ | ⟨h, h1, h2⟩
  · rw [h] at ha
    have PA := hid ha
    have hk : keyV 1 i emp = .tuple #[.string emp, .int .i64 14] := by unfold keyV; rw [if_neg (by omega)]
    rw [hk]
    clear ha h hk
    go_enter Tryz.func160, Tryz.ntmps160
    go_wp2_with (
       go_at_call 166
       refine (PA.out _).mono ?_
       rintro e w1 ⟨rfl, hb1⟩
       have H1 := hid (below_on hB0.out hb1)
       clear hb1)
    go_ret2
    exact ⟨rfl, H1.out⟩
  · rw [h] at ha
    have PA := hid ha
    clear ha h
    obtain ⟨b, hb⟩ : ∃ b, b = isKeyB s := ⟨_, rfl⟩
    have hik := isKey_any s
    rw [← hb] at hik
    have HK := hid hik
    have hk : keyV 2 0 s = if b = true then .tuple #[.string s, .int .i64 0] else .tuple #[.string emp, .int .i64 5] := by unfold keyV; rw [if_pos ⟨rfl, rfl, h2⟩, hb]
    rw [hk]
    clear hik hb hk
    cases b
    all_goals
      go_enter Tryz.func160, Tryz.ntmps160
      go_wp2_with (first
       | (go_at_call 166
          refine (PA.out _).mono ?_
          rintro e w1 ⟨rfl, hb1⟩
          have H1 := hid (below_on hB0.out hb1)
          clear hb1)
       | (go_at_call 180
          refine (HK.out _).mono ?_
          rintro e w2 ⟨rfl, e2⟩
          rw [e2]
          clear e2 w2)
       | (go_at_call 70
          refine (strClone_any s _ (by omega)).mono ?_
          rintro e w3 ⟨rfl, hb3⟩
          have H3 := hid (below_on H1.out hb3)
          clear hb3))
      go_ret2
      first
        | exact ⟨rfl, H3.out⟩
        | exact ⟨rfl, H1.out⟩
  · rw [h] at ha
    have PA := hid ha
    have hk : keyV k i s = .tuple #[.string emp, .int .i64 14] := by unfold keyV; rw [if_neg h2]
    rw [hk]
    clear ha h h2 h1 hk
    go_enter Tryz.func160, Tryz.ntmps160
    go_wp2_with (
       go_at_call 166
       refine (PA.out _).mono ?_
       rintro e w1 ⟨rfl, hb1⟩
       have H1 := hid (below_on hB0.out hb1)
       clear hb1)
    go_ret2
    exact ⟨rfl, H1.out⟩

end Go.Proofs.YthcoigbkdbkojaaGreat

namespace Go.Proofs.YthcoigbkdbkojaaGreat
open Go.RowKit

/-- The table of comparisons in the heap. -/
abbrev cmpTab : Obj := .cells #[.int .i64 1, .func (.func 201) #[] #[], .int .i64 2, .func (.func 202) #[] #[], .int .i64 3, .func (.func 203) #[] #[], .int .i64 4, .func (.func 204) #[] #[], .int .i64 5, .func (.func 205) #[] #[], .int .i64 6, .func (.func 206) #[] #[]] 239

set_option maxRecDepth 100000 in
set_option maxHeartbeats 1600000 in
theorem comparisons_any (w : World) : Calls Tryz.prog 184 #[] w fun x w' => x = .returned (.slice (some ⟨w.heap.size, 0, none⟩) 6 6) ∧ w'.heap[w.heap.size]? = some cmpTab ∧ Below w.heap.size w w' := by
  go_enter Tryz.func184, Tryz.ntmps184
  go_wp2
  go_ret
  exact ⟨rfl, heap_alloc_new w _, below1 w _⟩

set_option maxRecDepth 100000 in
set_option maxHeartbeats 800000 in
theorem met1 (c : Int) (w : World) : Calls Tryz.prog 201 #[.int .i64 c] w fun x w' => x = .returned (.bool (c == 0)) ∧ w' = w := by
  go_enter Tryz.func201, Tryz.ntmps201
  go_wp2
  go_ret
  exact ⟨rfl, rfl⟩

set_option maxRecDepth 100000 in
set_option maxHeartbeats 800000 in
theorem met2 (c : Int) (w : World) : Calls Tryz.prog 202 #[.int .i64 c] w fun x w' => x = .returned (.bool (!(c == 0))) ∧ w' = w := by
  go_enter Tryz.func202, Tryz.ntmps202
  go_wp2
  go_ret
  exact ⟨rfl, rfl⟩

set_option maxRecDepth 100000 in
set_option maxHeartbeats 800000 in
theorem met3 (c : Int) (w : World) : Calls Tryz.prog 203 #[.int .i64 c] w fun x w' => x = .returned (.bool (decide (c < 0))) ∧ w' = w := by
  go_enter Tryz.func203, Tryz.ntmps203
  go_wp2
  go_ret
  exact ⟨rfl, rfl⟩

set_option maxRecDepth 100000 in
set_option maxHeartbeats 800000 in
theorem met4 (c : Int) (w : World) : Calls Tryz.prog 204 #[.int .i64 c] w fun x w' => x = .returned (.bool (decide (c ≤ 0))) ∧ w' = w := by
  go_enter Tryz.func204, Tryz.ntmps204
  go_wp2
  go_ret
  exact ⟨rfl, rfl⟩

set_option maxRecDepth 100000 in
set_option maxHeartbeats 800000 in
theorem met5 (c : Int) (w : World) : Calls Tryz.prog 205 #[.int .i64 c] w fun x w' => x = .returned (.bool (decide (0 < c))) ∧ w' = w := by
  go_enter Tryz.func205, Tryz.ntmps205
  go_wp2
  go_ret
  exact ⟨rfl, rfl⟩

set_option maxRecDepth 100000 in
set_option maxHeartbeats 800000 in
theorem met6 (c : Int) (w : World) : Calls Tryz.prog 206 #[.int .i64 c] w fun x w' => x = .returned (.bool (decide (0 ≤ c))) ∧ w' = w := by
  go_enter Tryz.func206, Tryz.ntmps206
  go_wp2
  go_ret
  exact ⟨rfl, rfl⟩

end Go.Proofs.YthcoigbkdbkojaaGreat

namespace Go.Proofs.YthcoigbkdbkojaaGreat
open Go.RowKit

/-- Does a comparison hold, by what Compare answers? -/
def holdsB (how c : Int) : Bool :=
  if how = 1 then c == 0 else if how = 2 then !(c == 0) else if how = 3 then decide (c < 0) else if how = 4 then decide (c ≤ 0) else if how = 5 then decide (0 < c) else if how = 6 then decide (0 ≤ c) else false

theorem tab_cells {w : World} {r : Nat} (h : w.heap[r]? = some cmpTab) :
    w.cell? ⟨r, 0, none⟩ = some (.int .i64 1) ∧ w.cell? ⟨r, 1, none⟩ = some (.func (.func 201) #[] #[]) ∧ w.cell? ⟨r, 2, none⟩ = some (.int .i64 2) ∧ w.cell? ⟨r, 3, none⟩ = some (.func (.func 202) #[] #[]) ∧
    w.cell? ⟨r, 4, none⟩ = some (.int .i64 3) ∧ w.cell? ⟨r, 5, none⟩ = some (.func (.func 203) #[] #[]) ∧ w.cell? ⟨r, 6, none⟩ = some (.int .i64 4) ∧ w.cell? ⟨r, 7, none⟩ = some (.func (.func 204) #[] #[]) ∧
    w.cell? ⟨r, 8, none⟩ = some (.int .i64 5) ∧ w.cell? ⟨r, 9, none⟩ = some (.func (.func 205) #[] #[]) ∧ w.cell? ⟨r, 10, none⟩ = some (.int .i64 6) ∧ w.cell? ⟨r, 11, none⟩ = some (.func (.func 206) #[] #[]) := by
  refine ⟨?_, ?_, ?_, ?_, ?_, ?_, ?_, ?_, ?_, ?_, ?_, ?_⟩ <;> (rw [cell_of_row w r _ _ _ _ h]; rfl)

theorem tab_at {w : World} {r : Nat} (h : w.heap[r]? = some cmpTab) (n : Nat) (hn : n < 6) :
    w.cell? ⟨r, n * 2, none⟩ = some (.int .i64 (n + 1)) ∧ w.cell? ⟨r, n * 2 + 1, none⟩ = some (.func (.func (201 + n)) #[] #[]) := by
  obtain ⟨t0, t1, t2, t3, t4, t5, t6, t7, t8, t9, t10, t11⟩ := tab_cells h
  rcases (by omega : n = 0 ∨ n = 1 ∨ n = 2 ∨ n = 3 ∨ n = 4 ∨ n = 5) with rfl | rfl | rfl | rfl | rfl | rfl
  · exact ⟨t0, t1⟩
  · exact ⟨t2, t3⟩
  · exact ⟨t4, t5⟩
  · exact ⟨t6, t7⟩
  · exact ⟨t8, t9⟩
  · exact ⟨t10, t11⟩

theorem met_any (n : Nat) (hn : n < 6) (c : Int) (w : World) : Calls Tryz.prog (201 + n) #[.int .i64 c] w fun x w' => x = .returned (.bool (holdsB (n + 1) c)) ∧ w' = w := by
  rcases (by omega : n = 0 ∨ n = 1 ∨ n = 2 ∨ n = 3 ∨ n = 4 ∨ n = 5) with rfl | rfl | rfl | rfl | rfl | rfl
  · exact met1 c w
  · exact met2 c w
  · exact met3 c w
  · exact met4 c w
  · exact met5 c w
  · exact met6 c w

/-- Behind the call within the round. -/
theorem holds_close {w wr : World} (b : Bool) (h : Below w.heap.size w wr) : ∀ (o : Obj) (w2 : World), Below (wr.alloc o).heap.size (wr.alloc o) w2 → Below w.heap.size w w2 := by
  have _ := b
  intro o w2 h2
  exact (h.alloc h.size o).trans (h2.mono (h.alloc h.size o).size)

theorem blk_alloc {wr w2 : World} {p o : Obj} {r : Nat} (h : Below (wr.alloc o).heap.size (wr.alloc o).drew w2) (hr : wr.heap[r]? = some p) : w2.heap[r]? = some p := by
  have h1 := lt_of hr
  rw [h.block r (by simp; omega)]
  exact (Below.heap_alloc _ _ _ h1).trans hr

theorem fn_cell {wr w2 : World} {a b : Value} (h : Below (wr.alloc (.cells #[a, b] 239)).heap.size (wr.alloc (.cells #[a, b] 239)).drew w2) : w2.cell? ⟨wr.heap.size, 1, none⟩ = some b := by
  have h1 : w2.heap[wr.heap.size]? = some (.cells #[a, b] 239 (0, 0)) := (h.block _ (by simp)).trans (heap_alloc_new wr _)
  rw [cell_of_row w2 _ _ _ _ _ h1]
  rfl

set_option maxRecDepth 100000 in
set_option maxHeartbeats 1600000 in
theorem holds_any (how k i : Int) (s : ByteArray) (l j : Int) (t : ByteArray) (w : World) : Calls Tryz.prog 168 #[.int .i64 how, vl k i s, vl l j t] w fun x w' => x = .returned (.bool (holdsB how (cmpV k i s l j t))) ∧ Below w.heap.size w w' := by
  have hB0 := hid (below2 w (vo k i s) (vo l j t))
  have hR1 := hid (two1 w (vo k i s) (vo l j t))
  have hR2 := hid (two2 w (vo k i s) (vo l j t))
  go_enter Tryz.func168, Tryz.ntmps168
  go_wp2_with (
           go_at_call 184
           refine (comparisons_any _).mono ?_
           rintro e w1 ⟨rfl, ht1, hb1⟩
           have ht1 : w1.heap[w.heap.size + 1 + 1]? = some cmpTab := by simpa using ht1
           have H1 := hid (And.intro ht1 (And.intro (blk_of hb1 hR1.out (by simp; omega)) (And.intro (blk_of hb1 hR2.out (by simp)) (hB0.out.trans (hb1.mono hB0.out.size)))))
           clear hb1 ht1)
  go_loopw [11] (fun ix wr => ∃ n : Nat, n ≤ 6 ∧ ix = .int .i64 n ∧ Hid (Below w1.heap.size w1 wr) ∧ Hid (∀ m : Nat, m < n → how ≠ m + 1)) (fun ix _ => 6 - (intOf ix).toNat)
  case atStart => exact ⟨0, by omega, rfl, hid (Below.refl _ _), hid (by intro m hm; omega)⟩
  case round =>
    obtain ⟨n, hn, rfl, hb, hm⟩ := hrel
    by_cases hlt : n < 6
    · have hT := tab_at (blk_of hb.out H1.out.1 (lt_of H1.out.1)) n hlt
      have hlt' : (n : Int) < 6 := by omega
      by_cases hh : how = n + 1
      · subst hh
        obtain ⟨c0, c1, c2, -⟩ := vfacts (blk_of hb.out H1.out.2.1 (lt_of H1.out.2.1))
        obtain ⟨d0, d1, d2, -⟩ := vfacts (blk_of hb.out H1.out.2.2.1 (lt_of H1.out.2.2.1))
        have n1 := World.new_ne wr ⟨w.heap.size, 0, none⟩ c0
        have n2 := World.new_ne wr ⟨w.heap.size + 1, 0, none⟩ d0
        have hc := hid (holds_close (holdsB (n + 1) (cmpV k i s l j t)) (H1.out.2.2.2.trans (hb.out.mono H1.out.2.2.2.size)))
        have hA := hid (blk_of hb.out H1.out.2.1 (lt_of H1.out.2.1))
        have hD := hid (blk_of hb.out H1.out.2.2.1 (lt_of H1.out.2.2.1))
        clear H1 hb
        obtain ⟨T0, T1⟩ := hT
        rcases (by omega : n = 0 ∨ n = 1 ∨ n = 2 ∨ n = 3 ∨ n = 4 ∨ n = 5) with rfl | rfl | rfl | rfl | rfl | rfl
        · have hmet := hid (met_any 0 (by omega) (cmpV k i s l j t))
          go_wp2
          go_region_held (fun w' => w'.cell? ⟨wr.heap.size, 1, none⟩ = some (.func (.func 201) #[] #[]) ∧ w'.cell? ⟨w.heap.size, 0, none⟩ = some (.int .i64 k) ∧ w'.cell? ⟨w.heap.size, 1, none⟩ = some (.int .i64 i) ∧ w'.cell? ⟨w.heap.size, 2, none⟩ = some (.string s) ∧ w'.cell? ⟨w.heap.size + 1, 0, none⟩ = some (.int .i64 l) ∧ w'.cell? ⟨w.heap.size + 1, 1, none⟩ = some (.int .i64 j) ∧ w'.cell? ⟨w.heap.size + 1, 2, none⟩ = some (.string t)) (go_keep) (first
            | (go_at_call 185
               refine (compare_any k i s l j t _).mono ?_
               rintro e w2 ⟨rfl, hb2⟩
               have f1 : w2.cell? ⟨wr.heap.size, 1, none⟩ = some (.func (.func 201) #[] #[]) := fn_cell hb2
               obtain ⟨c0, c1, c2, -⟩ := vfacts (blk_alloc hb2 hA.out)
               obtain ⟨d0, d1, d2, -⟩ := vfacts (blk_alloc hb2 hD.out)
               have HB2 := hid hb2
               clear hb2)
            | (go_at_call 201
               refine (hmet.out _).mono ?_
               rintro e w3 ⟨rfl, e3⟩
               rw [e3]
               clear e3 w3))
          go_wp2
          go_ret
          exact ⟨rfl, hc.out _ w2 ⟨HB2.out.os, HB2.out.tape, HB2.out.output, HB2.out.size, HB2.out.block⟩⟩
        · have hmet := hid (met_any 1 (by omega) (cmpV k i s l j t))
          go_wp2
          go_region_held (fun w' => w'.cell? ⟨wr.heap.size, 1, none⟩ = some (.func (.func 202) #[] #[]) ∧ w'.cell? ⟨w.heap.size, 0, none⟩ = some (.int .i64 k) ∧ w'.cell? ⟨w.heap.size, 1, none⟩ = some (.int .i64 i) ∧ w'.cell? ⟨w.heap.size, 2, none⟩ = some (.string s) ∧ w'.cell? ⟨w.heap.size + 1, 0, none⟩ = some (.int .i64 l) ∧ w'.cell? ⟨w.heap.size + 1, 1, none⟩ = some (.int .i64 j) ∧ w'.cell? ⟨w.heap.size + 1, 2, none⟩ = some (.string t)) (go_keep) (first
            | (go_at_call 185
               refine (compare_any k i s l j t _).mono ?_
               rintro e w2 ⟨rfl, hb2⟩
               have f1 : w2.cell? ⟨wr.heap.size, 1, none⟩ = some (.func (.func 202) #[] #[]) := fn_cell hb2
               obtain ⟨c0, c1, c2, -⟩ := vfacts (blk_alloc hb2 hA.out)
               obtain ⟨d0, d1, d2, -⟩ := vfacts (blk_alloc hb2 hD.out)
               have HB2 := hid hb2
               clear hb2)
            | (go_at_call 202
               refine (hmet.out _).mono ?_
               rintro e w3 ⟨rfl, e3⟩
               rw [e3]
               clear e3 w3))
          go_wp2
          go_ret
          exact ⟨rfl, hc.out _ w2 ⟨HB2.out.os, HB2.out.tape, HB2.out.output, HB2.out.size, HB2.out.block⟩⟩
        · have hmet := hid (met_any 2 (by omega) (cmpV k i s l j t))
          go_wp2
          go_region_held (fun w' => w'.cell? ⟨wr.heap.size, 1, none⟩ = some (.func (.func 203) #[] #[]) ∧ w'.cell? ⟨w.heap.size, 0, none⟩ = some (.int .i64 k) ∧ w'.cell? ⟨w.heap.size, 1, none⟩ = some (.int .i64 i) ∧ w'.cell? ⟨w.heap.size, 2, none⟩ = some (.string s) ∧ w'.cell? ⟨w.heap.size + 1, 0, none⟩ = some (.int .i64 l) ∧ w'.cell? ⟨w.heap.size + 1, 1, none⟩ = some (.int .i64 j) ∧ w'.cell? ⟨w.heap.size + 1, 2, none⟩ = some (.string t)) (go_keep) (first
            | (go_at_call 185
               refine (compare_any k i s l j t _).mono ?_
               rintro e w2 ⟨rfl, hb2⟩
               have f1 : w2.cell? ⟨wr.heap.size, 1, none⟩ = some (.func (.func 203) #[] #[]) := fn_cell hb2
               obtain ⟨c0, c1, c2, -⟩ := vfacts (blk_alloc hb2 hA.out)
               obtain ⟨d0, d1, d2, -⟩ := vfacts (blk_alloc hb2 hD.out)
               have HB2 := hid hb2
               clear hb2)
            | (go_at_call 203
               refine (hmet.out _).mono ?_
               rintro e w3 ⟨rfl, e3⟩
               rw [e3]
               clear e3 w3))
          go_wp2
          go_ret
          exact ⟨rfl, hc.out _ w2 ⟨HB2.out.os, HB2.out.tape, HB2.out.output, HB2.out.size, HB2.out.block⟩⟩
        · have hmet := hid (met_any 3 (by omega) (cmpV k i s l j t))
          go_wp2
          go_region_held (fun w' => w'.cell? ⟨wr.heap.size, 1, none⟩ = some (.func (.func 204) #[] #[]) ∧ w'.cell? ⟨w.heap.size, 0, none⟩ = some (.int .i64 k) ∧ w'.cell? ⟨w.heap.size, 1, none⟩ = some (.int .i64 i) ∧ w'.cell? ⟨w.heap.size, 2, none⟩ = some (.string s) ∧ w'.cell? ⟨w.heap.size + 1, 0, none⟩ = some (.int .i64 l) ∧ w'.cell? ⟨w.heap.size + 1, 1, none⟩ = some (.int .i64 j) ∧ w'.cell? ⟨w.heap.size + 1, 2, none⟩ = some (.string t)) (go_keep) (first
            | (go_at_call 185
               refine (compare_any k i s l j t _).mono ?_
               rintro e w2 ⟨rfl, hb2⟩
               have f1 : w2.cell? ⟨wr.heap.size, 1, none⟩ = some (.func (.func 204) #[] #[]) := fn_cell hb2
               obtain ⟨c0, c1, c2, -⟩ := vfacts (blk_alloc hb2 hA.out)
               obtain ⟨d0, d1, d2, -⟩ := vfacts (blk_alloc hb2 hD.out)
               have HB2 := hid hb2
               clear hb2)
            | (go_at_call 204
               refine (hmet.out _).mono ?_
               rintro e w3 ⟨rfl, e3⟩
               rw [e3]
               clear e3 w3))
          go_wp2
          go_ret
          exact ⟨rfl, hc.out _ w2 ⟨HB2.out.os, HB2.out.tape, HB2.out.output, HB2.out.size, HB2.out.block⟩⟩
        · have hmet := hid (met_any 4 (by omega) (cmpV k i s l j t))
          go_wp2
          go_region_held (fun w' => w'.cell? ⟨wr.heap.size, 1, none⟩ = some (.func (.func 205) #[] #[]) ∧ w'.cell? ⟨w.heap.size, 0, none⟩ = some (.int .i64 k) ∧ w'.cell? ⟨w.heap.size, 1, none⟩ = some (.int .i64 i) ∧ w'.cell? ⟨w.heap.size, 2, none⟩ = some (.string s) ∧ w'.cell? ⟨w.heap.size + 1, 0, none⟩ = some (.int .i64 l) ∧ w'.cell? ⟨w.heap.size + 1, 1, none⟩ = some (.int .i64 j) ∧ w'.cell? ⟨w.heap.size + 1, 2, none⟩ = some (.string t)) (go_keep) (first
            | (go_at_call 185
               refine (compare_any k i s l j t _).mono ?_
               rintro e w2 ⟨rfl, hb2⟩
               have f1 : w2.cell? ⟨wr.heap.size, 1, none⟩ = some (.func (.func 205) #[] #[]) := fn_cell hb2
               obtain ⟨c0, c1, c2, -⟩ := vfacts (blk_alloc hb2 hA.out)
               obtain ⟨d0, d1, d2, -⟩ := vfacts (blk_alloc hb2 hD.out)
               have HB2 := hid hb2
               clear hb2)
            | (go_at_call 205
               refine (hmet.out _).mono ?_
               rintro e w3 ⟨rfl, e3⟩
               rw [e3]
               clear e3 w3))
          go_wp2
          go_ret
          exact ⟨rfl, hc.out _ w2 ⟨HB2.out.os, HB2.out.tape, HB2.out.output, HB2.out.size, HB2.out.block⟩⟩
        · have hmet := hid (met_any 5 (by omega) (cmpV k i s l j t))
          go_wp2
          go_region_held (fun w' => w'.cell? ⟨wr.heap.size, 1, none⟩ = some (.func (.func 206) #[] #[]) ∧ w'.cell? ⟨w.heap.size, 0, none⟩ = some (.int .i64 k) ∧ w'.cell? ⟨w.heap.size, 1, none⟩ = some (.int .i64 i) ∧ w'.cell? ⟨w.heap.size, 2, none⟩ = some (.string s) ∧ w'.cell? ⟨w.heap.size + 1, 0, none⟩ = some (.int .i64 l) ∧ w'.cell? ⟨w.heap.size + 1, 1, none⟩ = some (.int .i64 j) ∧ w'.cell? ⟨w.heap.size + 1, 2, none⟩ = some (.string t)) (go_keep) (first
            | (go_at_call 185
               refine (compare_any k i s l j t _).mono ?_
               rintro e w2 ⟨rfl, hb2⟩
               have f1 : w2.cell? ⟨wr.heap.size, 1, none⟩ = some (.func (.func 206) #[] #[]) := fn_cell hb2
               obtain ⟨c0, c1, c2, -⟩ := vfacts (blk_alloc hb2 hA.out)
               obtain ⟨d0, d1, d2, -⟩ := vfacts (blk_alloc hb2 hD.out)
               have HB2 := hid hb2
               clear hb2)
            | (go_at_call 206
               refine (hmet.out _).mono ?_
               rintro e w3 ⟨rfl, e3⟩
               rw [e3]
               clear e3 w3))
          go_wp2
          go_ret
          exact ⟨rfl, hc.out _ w2 ⟨HB2.out.os, HB2.out.tape, HB2.out.output, HB2.out.size, HB2.out.block⟩⟩
      · have hh2 : ((n : Int) + 1 == how) = false := by simp; omega
        obtain ⟨T0, T1⟩ := hT
        have i1 : (0 : Int) ≤ (n : Int) := by omega
        go_wp2
        refine ⟨⟨n + 1, by omega, by simp, hid (hb.out.alloc hb.out.size _), hid ?_⟩, by simp [intOf]; omega⟩
        intro m hm1
        rcases Nat.lt_succ_iff_lt_or_eq.1 hm1 with h | rfl
        · exact hm.out m h
        · exact hh
    · have he : n = 6 := by omega
      subst he
      go_wp2
      go_ret
      refine ⟨?_, H1.out.2.2.2.trans (hb.out.mono H1.out.2.2.2.size)⟩
      have h1 := hm.out 0 (by omega)
      have h2 := hm.out 1 (by omega)
      have h3 := hm.out 2 (by omega)
      have h4 := hm.out 3 (by omega)
      have h5 := hm.out 4 (by omega)
      have h6 := hm.out 5 (by omega)
      rw [show holdsB how (cmpV k i s l j t) = false by unfold holdsB; simp_all]
      rfl

end Go.Proofs.YthcoigbkdbkojaaGreat
