import Derived.Test.YtljfmbjibjoiiaaK18
import Derived.Test.YtljfmbjibjoiiaaK04
import Derived.Test.YtljfmbjibjoiiaaK01
namespace Go.Proofs.Ytljfmbjibjoiiaa
open Go.RowKit

/-- The error of an instruction, as the document finds it. -/
def rinsErr (L : ByteArray) (qA qa qB qC qN qV : Bool) (d1 d2 : Bool) (k i : Int) (t : ByteArray) : Int :=
  if L = ⟨#[63]⟩ then 16 else if ((if qa then d1 && d2 else qA) && qB && qC && qN) = true then (if qV then chk k i t else if k = 0 ∧ i = 0 ∧ t = emp then 0 else 16) else 16

def rinsErrOf (x : Ins) (ar bh : Int) : Int :=
  rinsErr (fdS x.op) (regB (fdS x.op) 65 x.a) (decide (97 ∈ strBs (fdS x.op))) (regB (fdS x.op) 66 x.b) (regB (fdS x.op) 67 x.c) (numB ar x.op x.n) (decide (86 ∈ strBs (fdS x.op))) (decide (1 ≤ x.a)) (decide (x.a ≤ bh)) x.k x.i x.t

theorem d16 (v : Int) : (decide (0 ≤ v) && decide (v < 16)) = withinB v 0 15 := by
  rw [withinB, Bool.eq_iff_iff]
  simp
  omega
theorem dar (n ar : Int) : (decide (0 ≤ n) && decide (n < ar)) = withinB n 0 (ar - 1) := by
  rw [withinB, Bool.eq_iff_iff]
  simp
  omega
theorem dwi (n l m : Int) : (decide (l ≤ n) && decide (n ≤ m)) = withinB n l m := rfl
theorem tf (p : Prop) : p = True ∨ p = False := by
  by_cases h : p
  · exact .inl (eq_true h)
  · exact .inr (eq_false h)

theorem chk0 : chk 0 0 emp = 0 := by decide

theorem rinsErr_eq (x : Ins) (ar bh : Int) (har : withinB ar 0 16 = true) : rinsErrOf x ar bh = insErr x ar bh := by
  obtain ⟨o, a, b, c, n, k, i, t⟩ := x
  have hw : wrap64 (ar - 1) = ar - 1 := by
    simp [withinB] at har
    unfold wrap64; omega
  rcases op_cases o with rfl | rfl | rfl | rfl | rfl | rfl | rfl | rfl | rfl | rfl | rfl | rfl | rfl | rfl | rfl | rfl | h
  case inr.inr.inr.inr.inr.inr.inr.inr.inr.inr.inr.inr.inr.inr.inr.inr =>
    simp only [rinsErrOf, fdS_none o h, rinsErr, insErr]
    rw [if_pos trivial, if_neg h]
  · simp only [rinsErrOf, rinsErr, insErr, opErr, regB, numB, dar, dwi]
    by_cases hz : k = 0 ∧ i = 0 ∧ t = emp
    · obtain ⟨rfl, rfl, rfl⟩ := hz
      rcases Bool.eq_false_or_eq_true (withinB a 0 15) with wA | wA <;> simp [fdS, opN, opF, chkF, Fk.fits, Fk.get, Fk.set, strBs, and_assoc, chk0, wA]
    · rcases Bool.eq_false_or_eq_true (withinB a 0 15) with wA | wA <;> simp [fdS, opN, opF, chkF, Fk.fits, Fk.get, Fk.set, strBs, and_assoc, hz, wA]
  · simp only [rinsErrOf, rinsErr, insErr, opErr, regB, numB, dar, dwi]
    by_cases hz : k = 0 ∧ i = 0 ∧ t = emp
    · obtain ⟨rfl, rfl, rfl⟩ := hz
      rcases Bool.eq_false_or_eq_true (withinB a 0 15) with wA | wA <;> rcases Bool.eq_false_or_eq_true (withinB n 0 (ar - 1)) with w1 | w1 <;> simp [fdS, opN, opF, chkF, Fk.fits, Fk.get, Fk.set, strBs, hw, chk0, wA, w1]
    · rcases Bool.eq_false_or_eq_true (withinB a 0 15) with wA | wA <;> rcases Bool.eq_false_or_eq_true (withinB n 0 (ar - 1)) with w1 | w1 <;> simp [fdS, opN, opF, chkF, Fk.fits, Fk.get, Fk.set, strBs, hw, hz, wA, w1]
  · simp only [rinsErrOf, rinsErr, insErr, opErr, regB, numB, dar, dwi]
    by_cases hz : k = 0 ∧ i = 0 ∧ t = emp
    · obtain ⟨rfl, rfl, rfl⟩ := hz
      rcases Bool.eq_false_or_eq_true (withinB a 0 15) with wA | wA <;> rcases Bool.eq_false_or_eq_true (withinB b 0 15) with wB | wB <;> simp [fdS, opN, opF, chkF, Fk.fits, Fk.get, Fk.set, strBs, chk0, wA, wB]
    · rcases Bool.eq_false_or_eq_true (withinB a 0 15) with wA | wA <;> rcases Bool.eq_false_or_eq_true (withinB b 0 15) with wB | wB <;> simp [fdS, opN, opF, chkF, Fk.fits, Fk.get, Fk.set, strBs, hz, wA, wB]
  · simp only [rinsErrOf, rinsErr, insErr, opErr, regB, numB, dar, dwi]
    by_cases hz : k = 0 ∧ i = 0 ∧ t = emp
    · obtain ⟨rfl, rfl, rfl⟩ := hz
      rcases Bool.eq_false_or_eq_true (withinB a 0 15) with wA | wA <;> rcases Bool.eq_false_or_eq_true (withinB b 0 15) with wB | wB <;> simp [fdS, opN, opF, chkF, Fk.fits, Fk.get, Fk.set, strBs, chk0, wA, wB]
    · rcases Bool.eq_false_or_eq_true (withinB a 0 15) with wA | wA <;> rcases Bool.eq_false_or_eq_true (withinB b 0 15) with wB | wB <;> simp [fdS, opN, opF, chkF, Fk.fits, Fk.get, Fk.set, strBs, hz, wA, wB]
  · simp only [rinsErrOf, rinsErr, insErr, opErr, regB, numB, dar, dwi]
    by_cases hz : k = 0 ∧ i = 0 ∧ t = emp
    · obtain ⟨rfl, rfl, rfl⟩ := hz
      rcases Bool.eq_false_or_eq_true (withinB a 0 15) with wA | wA <;> simp [fdS, opN, opF, chkF, Fk.fits, Fk.get, Fk.set, strBs, and_assoc, chk0, wA]
    · rcases Bool.eq_false_or_eq_true (withinB a 0 15) with wA | wA <;> simp [fdS, opN, opF, chkF, Fk.fits, Fk.get, Fk.set, strBs, and_assoc, hz, wA]
  · simp only [rinsErrOf, rinsErr, insErr, opErr, regB, numB, dar, dwi]
    by_cases hz : k = 0 ∧ i = 0 ∧ t = emp
    · obtain ⟨rfl, rfl, rfl⟩ := hz
      rcases Bool.eq_false_or_eq_true (withinB a 0 15) with wA | wA <;> rcases Bool.eq_false_or_eq_true (withinB b 0 15) with wB | wB <;> rcases Bool.eq_false_or_eq_true (withinB c 0 15) with wC | wC <;> simp [fdS, opN, opF, chkF, Fk.fits, Fk.get, Fk.set, strBs, chk0, wA, wB, wC]
    · rcases Bool.eq_false_or_eq_true (withinB a 0 15) with wA | wA <;> rcases Bool.eq_false_or_eq_true (withinB b 0 15) with wB | wB <;> rcases Bool.eq_false_or_eq_true (withinB c 0 15) with wC | wC <;> simp [fdS, opN, opF, chkF, Fk.fits, Fk.get, Fk.set, strBs, hz, wA, wB, wC]
  · simp only [rinsErrOf, rinsErr, insErr, opErr, regB, numB, dar, dwi]
    by_cases hz : k = 0 ∧ i = 0 ∧ t = emp
    · obtain ⟨rfl, rfl, rfl⟩ := hz
      rcases Bool.eq_false_or_eq_true (withinB a 0 15) with wA | wA <;> rcases Bool.eq_false_or_eq_true (withinB b 0 15) with wB | wB <;> rcases Bool.eq_false_or_eq_true (withinB c 0 15) with wC | wC <;> simp [fdS, opN, opF, chkF, Fk.fits, Fk.get, Fk.set, strBs, chk0, wA, wB, wC]
    · rcases Bool.eq_false_or_eq_true (withinB a 0 15) with wA | wA <;> rcases Bool.eq_false_or_eq_true (withinB b 0 15) with wB | wB <;> rcases Bool.eq_false_or_eq_true (withinB c 0 15) with wC | wC <;> simp [fdS, opN, opF, chkF, Fk.fits, Fk.get, Fk.set, strBs, hz, wA, wB, wC]
  · simp only [rinsErrOf, rinsErr, insErr, opErr, regB, numB, dar, dwi]
    by_cases hz : k = 0 ∧ i = 0 ∧ t = emp
    · obtain ⟨rfl, rfl, rfl⟩ := hz
      rcases Bool.eq_false_or_eq_true (withinB a 0 15) with wA | wA <;> rcases Bool.eq_false_or_eq_true (withinB b 0 15) with wB | wB <;> rcases Bool.eq_false_or_eq_true (withinB c 0 15) with wC | wC <;> simp [fdS, opN, opF, chkF, Fk.fits, Fk.get, Fk.set, strBs, chk0, wA, wB, wC]
    · rcases Bool.eq_false_or_eq_true (withinB a 0 15) with wA | wA <;> rcases Bool.eq_false_or_eq_true (withinB b 0 15) with wB | wB <;> rcases Bool.eq_false_or_eq_true (withinB c 0 15) with wC | wC <;> simp [fdS, opN, opF, chkF, Fk.fits, Fk.get, Fk.set, strBs, hz, wA, wB, wC]
  · simp only [rinsErrOf, rinsErr, insErr, opErr, regB, numB, dar, dwi]
    by_cases hz : k = 0 ∧ i = 0 ∧ t = emp
    · obtain ⟨rfl, rfl, rfl⟩ := hz
      rcases Bool.eq_false_or_eq_true (withinB a 0 15) with wA | wA <;> rcases Bool.eq_false_or_eq_true (withinB b 0 15) with wB | wB <;> rcases Bool.eq_false_or_eq_true (withinB c 0 15) with wC | wC <;> simp [fdS, opN, opF, chkF, Fk.fits, Fk.get, Fk.set, strBs, chk0, wA, wB, wC]
    · rcases Bool.eq_false_or_eq_true (withinB a 0 15) with wA | wA <;> rcases Bool.eq_false_or_eq_true (withinB b 0 15) with wB | wB <;> rcases Bool.eq_false_or_eq_true (withinB c 0 15) with wC | wC <;> simp [fdS, opN, opF, chkF, Fk.fits, Fk.get, Fk.set, strBs, hz, wA, wB, wC]
  · simp only [rinsErrOf, rinsErr, insErr, opErr, regB, numB, dar, dwi]
    by_cases hz : k = 0 ∧ i = 0 ∧ t = emp
    · obtain ⟨rfl, rfl, rfl⟩ := hz
      rcases Bool.eq_false_or_eq_true (withinB b 0 15) with wB | wB <;> rcases Bool.eq_false_or_eq_true (withinB c 0 15) with wC | wC <;> rcases Bool.eq_false_or_eq_true (withinB n 1 6) with w6 | w6 <;> simp [fdS, opN, opF, chkF, Fk.fits, Fk.get, Fk.set, strBs, chk0, wB, wC, w6]
    · rcases Bool.eq_false_or_eq_true (withinB b 0 15) with wB | wB <;> rcases Bool.eq_false_or_eq_true (withinB c 0 15) with wC | wC <;> rcases Bool.eq_false_or_eq_true (withinB n 1 6) with w6 | w6 <;> simp [fdS, opN, opF, chkF, Fk.fits, Fk.get, Fk.set, strBs, hz, wB, wC, w6]
  · simp only [rinsErrOf, rinsErr, insErr, opErr, regB, numB, dar, dwi]
    by_cases hz : k = 0 ∧ i = 0 ∧ t = emp
    · obtain ⟨rfl, rfl, rfl⟩ := hz
      rcases Bool.eq_false_or_eq_true (withinB a 1 bh) with wS | wS <;> rcases Bool.eq_false_or_eq_true (withinB b 0 15) with wB | wB <;> rcases Bool.eq_false_or_eq_true (withinB c 0 15) with wC | wC <;> rcases Bool.eq_false_or_eq_true (withinB n 1 6) with w6 | w6 <;> simp [fdS, opN, opF, chkF, Fk.fits, Fk.get, Fk.set, strBs, chk0, wS, wB, wC, w6]
    · rcases Bool.eq_false_or_eq_true (withinB a 1 bh) with wS | wS <;> rcases Bool.eq_false_or_eq_true (withinB b 0 15) with wB | wB <;> rcases Bool.eq_false_or_eq_true (withinB c 0 15) with wC | wC <;> rcases Bool.eq_false_or_eq_true (withinB n 1 6) with w6 | w6 <;> simp [fdS, opN, opF, chkF, Fk.fits, Fk.get, Fk.set, strBs, hz, wS, wB, wC, w6]
  · simp only [rinsErrOf, rinsErr, insErr, opErr, regB, numB, dar, dwi]
    by_cases hz : k = 0 ∧ i = 0 ∧ t = emp
    · obtain ⟨rfl, rfl, rfl⟩ := hz
      rcases Bool.eq_false_or_eq_true (withinB a 0 15) with wA | wA <;> rcases Bool.eq_false_or_eq_true (withinB b 0 15) with wB | wB <;> rcases Bool.eq_false_or_eq_true (withinB c 0 15) with wC | wC <;> rcases Bool.eq_false_or_eq_true (withinB n 1 64) with wL | wL <;> simp [fdS, opN, opF, chkF, Fk.fits, Fk.get, Fk.set, strBs, chk0, wA, wB, wC, wL]
    · rcases Bool.eq_false_or_eq_true (withinB a 0 15) with wA | wA <;> rcases Bool.eq_false_or_eq_true (withinB b 0 15) with wB | wB <;> rcases Bool.eq_false_or_eq_true (withinB c 0 15) with wC | wC <;> rcases Bool.eq_false_or_eq_true (withinB n 1 64) with wL | wL <;> simp [fdS, opN, opF, chkF, Fk.fits, Fk.get, Fk.set, strBs, hz, wA, wB, wC, wL]
  · simp only [rinsErrOf, rinsErr, insErr, opErr, regB, numB, dar, dwi]
    by_cases hz : k = 0 ∧ i = 0 ∧ t = emp
    · obtain ⟨rfl, rfl, rfl⟩ := hz
      rcases Bool.eq_false_or_eq_true (withinB a 0 15) with wA | wA <;> rcases Bool.eq_false_or_eq_true (withinB b 0 15) with wB | wB <;> rcases Bool.eq_false_or_eq_true (withinB c 0 15) with wC | wC <;> rcases Bool.eq_false_or_eq_true (withinB n 1 64) with wL | wL <;> simp [fdS, opN, opF, chkF, Fk.fits, Fk.get, Fk.set, strBs, chk0, wA, wB, wC, wL]
    · rcases Bool.eq_false_or_eq_true (withinB a 0 15) with wA | wA <;> rcases Bool.eq_false_or_eq_true (withinB b 0 15) with wB | wB <;> rcases Bool.eq_false_or_eq_true (withinB c 0 15) with wC | wC <;> rcases Bool.eq_false_or_eq_true (withinB n 1 64) with wL | wL <;> simp [fdS, opN, opF, chkF, Fk.fits, Fk.get, Fk.set, strBs, hz, wA, wB, wC, wL]
  · simp only [rinsErrOf, rinsErr, insErr, opErr, regB, numB, dar, dwi]
    by_cases hz : k = 0 ∧ i = 0 ∧ t = emp
    · obtain ⟨rfl, rfl, rfl⟩ := hz
      rcases Bool.eq_false_or_eq_true (withinB a 0 15) with wA | wA <;> rcases Bool.eq_false_or_eq_true (withinB b 0 15) with wB | wB <;> simp [fdS, opN, opF, chkF, Fk.fits, Fk.get, Fk.set, strBs, chk0, wA, wB]
    · rcases Bool.eq_false_or_eq_true (withinB a 0 15) with wA | wA <;> rcases Bool.eq_false_or_eq_true (withinB b 0 15) with wB | wB <;> simp [fdS, opN, opF, chkF, Fk.fits, Fk.get, Fk.set, strBs, hz, wA, wB]
  · simp only [rinsErrOf, rinsErr, insErr, opErr, regB, numB, dar, dwi]
    by_cases hz : k = 0 ∧ i = 0 ∧ t = emp
    · obtain ⟨rfl, rfl, rfl⟩ := hz
      rcases Bool.eq_false_or_eq_true (withinB a 0 15) with wA | wA <;> simp [fdS, opN, opF, chkF, Fk.fits, Fk.get, Fk.set, strBs, and_assoc, chk0, wA]
    · rcases Bool.eq_false_or_eq_true (withinB a 0 15) with wA | wA <;> simp [fdS, opN, opF, chkF, Fk.fits, Fk.get, Fk.set, strBs, and_assoc, hz, wA]
  · simp only [rinsErrOf, rinsErr, insErr, opErr, regB, numB, dar, dwi]
    by_cases hz : k = 0 ∧ i = 0 ∧ t = emp
    · obtain ⟨rfl, rfl, rfl⟩ := hz
      simp [fdS, opN, opF, chkF, strBs, and_assoc, chk0]
    · simp [fdS, opN, opF, chkF, strBs, and_assoc, hz]

end Go.Proofs.Ytljfmbjibjoiiaa

namespace Go.Proofs.Ytljfmbjibjoiiaa
open Go.RowKit Go.Lib

set_option maxRecDepth 100000 in
set_option maxHeartbeats 1600000 in
theorem rcheck_any (k i : Int) (s : ByteArray) (w : World) : Calls Try.prog 63 #[vl k i s] w fun x w' => x = .returned (.int .i64 (chk k i s)) ∧ Below w.heap.size w w' := by
  have hB0 := hid (below1 w (vo k i s))
  obtain ⟨r, hr⟩ : ∃ r, r = chk k i s := ⟨_, rfl⟩
  rw [← hr]
  have HR := hid hr
  clear hr
  have e0 : emp.toList = [] := emp_toList
  by_cases h1 : k = 1
  · subst h1
    by_cases hs : s = emp
    · subst hs
      go_enter Try.func63, Try.ntmps63
      go_wp2
      go_ret
      exact ⟨by rw [HR.out]; rfl, hB0.out⟩
    · obtain ⟨q1, q2, q3, q4⟩ := str_ne2 hs
      go_enter Try.func63, Try.ntmps63
      go_wp2
      go_ret
      exact ⟨by rw [HR.out, show chk 1 i s = 14 by simp [chk, hs]]; rfl, hB0.out⟩
  · have b1 : (k == 1) = false := by simpa using h1
    by_cases h2 : k = 2
    · subst h2
      by_cases hi : i = 0
      · subst hi
        by_cases hg : (256 : Int) < s.size
        · go_enter Try.func63, Try.ntmps63
          go_wp2
          go_ret
          exact ⟨by rw [HR.out, show chk 2 0 s = 4 by simp [chk]; omega]; rfl, hB0.out⟩
        · go_enter Try.func63, Try.ntmps63
          go_wp2
          go_ret
          exact ⟨by rw [HR.out, show chk 2 0 s = 0 by simp [chk]; omega]; rfl, hB0.out⟩
      · have bi : (i == 0) = false := by simpa using hi
        go_enter Try.func63, Try.ntmps63
        go_wp2
        go_ret
        exact ⟨by rw [HR.out, show chk 2 i s = 14 by simp [chk, hi]]; rfl, hB0.out⟩
    · have b2 : (k == 2) = false := by simpa using h2
      by_cases hk : k = 0
      · subst hk
        by_cases hi : i = 0
        · subst hi
          by_cases hs : s = emp
          · subst hs
            go_enter Try.func63, Try.ntmps63
            go_wp2
            go_ret
            exact ⟨by rw [HR.out]; rfl, hB0.out⟩
          · obtain ⟨q1, q2, q3, q4⟩ := str_ne2 hs
            go_enter Try.func63, Try.ntmps63
            go_wp2
            go_ret
            exact ⟨by rw [HR.out, show chk 0 0 s = 14 by simp [chk, hs]]; rfl, hB0.out⟩
        · have bi : (i == 0) = false := by simpa using hi
          go_enter Try.func63, Try.ntmps63
          go_wp2
          go_ret
          exact ⟨by rw [HR.out, show chk 0 i s = 14 by simp [chk, hi]]; rfl, hB0.out⟩
      · by_cases hn : k < 0
        · go_enter Try.func63, Try.ntmps63
          go_wp2
          go_ret
          exact ⟨by rw [HR.out, show chk k i s = 14 by simp [chk, h1, h2, hk]]; rfl, hB0.out⟩
        · have hp : 2 < k := by omega
          go_enter Try.func63, Try.ntmps63
          go_wp2
          go_ret
          exact ⟨by rw [HR.out, show chk k i s = 14 by simp [chk, h1, h2, hk]]; rfl, hB0.out⟩

end Go.Proofs.Ytljfmbjibjoiiaa
