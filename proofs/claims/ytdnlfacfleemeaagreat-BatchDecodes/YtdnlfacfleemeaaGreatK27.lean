import Derived.Test.YtdnlfacfleemeaaGreatK02
import Derived.Test.YtdnlfacfleemeaaGreatK04
import Derived.Test.YtdnlfacfleemeaaGreatK01
namespace Go.Proofs.YtdnlfacfleemeaaGreat
open Go.RowKit

theorem take_not {l : List Int} {f y : Int} {k : Nat} (h : f ∉ l.take k) (hy : l[k]? = some y) (hn : y ≠ f) : f ∉ l.take (k + 1) := by
  rw [List.take_add_one, hy]
  intro h2
  rcases List.mem_append.1 h2 with h3 | h3
  · exact h h3
  · simp at h3
    exact hn h3.symm

set_option maxRecDepth 100000 in
set_option maxHeartbeats 800000 in
theorem rhas_any (l : ByteArray) (hl : l.size ≤ 100) (f : Int) (w : World) : Calls Tryz.prog 87 #[.string l, .int .u8 f] w fun x w' => x = .returned (.bool (decide (f ∈ strBs l))) ∧ w' = w := by
  obtain ⟨r, hr⟩ : ∃ r, r = decide (f ∈ strBs l) := ⟨_, rfl⟩
  rw [← hr]
  have HR := hid hr
  clear hr
  go_enter Tryz.func87, Tryz.ntmps87
  go_wp2
  go_loopw [5] (fun i wr => ∃ (k : Nat), k ≤ l.size ∧ i = .int .i64 k ∧ wr = w ∧ Hid (f ∉ (strBs l).take k)) (fun i _ => l.size - (intOf i).toNat)
  case atStart => exact ⟨0, Nat.zero_le _, rfl, rfl, hid (by simp)⟩
  case round =>
    obtain ⟨k, hk, rfl, rfl, hpre⟩ := hrel
    by_cases hlt : k < l.size
    · obtain ⟨a1, ha1⟩ : ∃ a1 : UInt8, a1 = l[k]'hlt := ⟨_, rfl⟩
      have hat := strBs_at l k hlt
      rw [← ha1] at hat
      by_cases h3 : ((a1.toNat : Int) == f) = true
      · have h4 : (((l[k]'hlt).toNat : Int) == f) = true := by rw [← ha1]; exact h3
        have H3 := hid h3
        have HA := hid hat
        clear h3 hat
        go_wp2
        go_ret
        refine ⟨?_, rfl⟩
        rw [HR.out, show decide (f ∈ strBs l) = true by
          have := List.mem_of_getElem? HA.out
          rw [eq_of_beq H3.out] at this
          simpa using this]
        rfl
      · have h3 : ((a1.toNat : Int) == f) = false := by simpa using h3
        have h4 : (((l[k]'hlt).toNat : Int) == f) = false := by rw [← ha1]; exact h3
        have H3 := hid h3
        have HA := hid hat
        clear h3 hat
        go_wp2
        go_roundw
        case rel => exact ⟨k + 1, by omega, by go_num, (by first | rfl | trivial), hid (take_not hpre.out HA.out (by simpa using H3.out))⟩
        case measure => simp [intOf]; omega
    · have hall := hpre.out
      rw [List.take_of_length_le (by rw [strBs_len]; omega)] at hall
      have Hall := hid hall
      clear hall
      go_wp2
      go_ret
      refine ⟨?_, rfl⟩
      rw [HR.out, show decide (f ∈ strBs l) = false by simpa using Hall.out]
      rfl

/-- Is it a register, if there is that field; else zero? -/
def regB (l : ByteArray) (f v : Int) : Bool := if f ∈ strBs l then decide (0 ≤ v) && decide (v < 16) else v == 0

set_option maxRecDepth 100000 in
theorem rregister_any (l : ByteArray) (hl : l.size ≤ 100) (f v : Int) (w : World) : Calls Tryz.prog 86 #[.string l, .int .u8 f, .int .i64 v] w fun x w' => x = .returned (.bool (regB l f v)) ∧ w' = w := by
  by_cases h : f ∈ strBs l
  · have h0 : decide (f ∈ strBs l) = true := by simpa using h
    have H0 := hid h0
    have H := hid h
    clear h0 h
    rcases Bool.eq_false_or_eq_true (decide (0 ≤ v)) with h1 | h1 <;> rcases Bool.eq_false_or_eq_true (decide (v < 16)) with h2 | h2 <;>
    · go_enter Tryz.func86, Tryz.ntmps86
      go_wp2_with (go_at_call 87; refine (rhas_any l hl f _).mono ?_; rintro e w' ⟨rfl, e1⟩; rw [e1, H0.out]; clear e1 w')
      go_ret
      exact ⟨by simp [regB, H.out, h1, h2], rfl⟩
  · have h0 : decide (f ∈ strBs l) = false := by simpa using h
    have H0 := hid h0
    have H := hid h
    clear h0 h
    rcases Bool.eq_false_or_eq_true (v == 0) with h1 | h1 <;>
    · go_enter Tryz.func86, Tryz.ntmps86
      go_wp2_with (go_at_call 87; refine (rhas_any l hl f _).mono ?_; rintro e w' ⟨rfl, e1⟩; rw [e1, H0.out]; clear e1 w')
      go_ret
      exact ⟨by simp [regB, H.out, h1], rfl⟩

/-- The fields of an operation, as a text. -/
def fdS (op : Int) : ByteArray :=
  if op = 1 then ⟨#[65, 86]⟩ else if op = 2 then ⟨#[65, 78]⟩ else if op = 3 ∨ op = 14 ∨ op = 4 then ⟨#[65, 66]⟩ else if op = 5 ∨ op = 15 then ⟨#[65]⟩
  else if op = 6 ∨ op = 7 ∨ op = 8 ∨ op = 9 then ⟨#[65, 66, 67]⟩ else if op = 10 then ⟨#[66, 67, 78]⟩ else if op = 11 then ⟨#[97, 66, 67, 78]⟩ else if op = 12 ∨ op = 13 then ⟨#[65, 66, 67, 78]⟩
  else if op = 16 then emp else ⟨#[63]⟩

theorem fdS_len (op : Int) : (fdS op).size ≤ 100 := by
  unfold fdS
  (repeat' split) <;> decide

theorem op_cases (op : Int) : op = 1 ∨ op = 2 ∨ op = 3 ∨ op = 4 ∨ op = 5 ∨ op = 6 ∨ op = 7 ∨ op = 8 ∨ op = 9 ∨ op = 10 ∨ op = 11 ∨ op = 12 ∨ op = 13 ∨ op = 14 ∨ op = 15 ∨ op = 16 ∨ ¬ (1 ≤ op ∧ op ≤ 16) := by omega

theorem fdS_none (op : Int) (h : ¬ (1 ≤ op ∧ op ≤ 16)) : fdS op = ⟨#[63]⟩ := by
  unfold fdS
  (repeat' split) <;> first | rfl | omega

set_option maxRecDepth 100000 in
set_option maxHeartbeats 1600000 in
theorem rfields_any (op : Int) (w : World) : Calls Tryz.prog 74 #[.int .i64 op] w fun x w' => x = .returned (.string (fdS op)) ∧ w' = w := by
  rcases op_cases op with rfl | rfl | rfl | rfl | rfl | rfl | rfl | rfl | rfl | rfl | rfl | rfl | rfl | rfl | rfl | rfl | h
  case inr.inr.inr.inr.inr.inr.inr.inr.inr.inr.inr.inr.inr.inr.inr.inr =>
    rw [fdS_none op h]
    have e1 : (op == 1) = false := by simp; omega
    have e2 : (op == 2) = false := by simp; omega
    have e3 : (op == 3) = false := by simp; omega
    have e4 : (op == 4) = false := by simp; omega
    have e5 : (op == 5) = false := by simp; omega
    have e6 : (op == 6) = false := by simp; omega
    have e7 : (op == 7) = false := by simp; omega
    have e8 : (op == 8) = false := by simp; omega
    have e9 : (op == 9) = false := by simp; omega
    have e10 : (op == 10) = false := by simp; omega
    have e11 : (op == 11) = false := by simp; omega
    have e12 : (op == 12) = false := by simp; omega
    have e13 : (op == 13) = false := by simp; omega
    have e14 : (op == 14) = false := by simp; omega
    have e15 : (op == 15) = false := by simp; omega
    have e16 : (op == 16) = false := by simp; omega
    clear h
    go_enter Tryz.func74, Tryz.ntmps74
    go_wp2
    go_ret
    exact ⟨rfl, rfl⟩
  all_goals
    go_enter Tryz.func74, Tryz.ntmps74
    go_wp2
    go_ret
    exact ⟨rfl, rfl⟩

end Go.Proofs.YtdnlfacfleemeaaGreat

namespace Go.Proofs.YtdnlfacfleemeaaGreat
open Go.RowKit

/-- Is N what the table says? -/
def numB (ar op n : Int) : Bool :=
  if op = 2 then decide (0 ≤ n) && decide (n < ar) else if op = 10 ∨ op = 11 then decide (1 ≤ n) && decide (n ≤ 6) else if op = 12 ∨ op = 13 then decide (1 ≤ n) && decide (n ≤ 64) else n == 0

set_option maxRecDepth 100000 in
set_option maxHeartbeats 1600000 in
theorem rnumber_any (nm : ByteArray) (ar : Int) (ao : Option Addr) (len cap : Nat) (o a b c n k i : Int) (t : ByteArray) (w : World) :
    Calls Tryz.prog 88 #[.agg #[.string nm, .int .i64 ar, .slice ao len cap], .agg #[.int .i64 o, .int .i64 a, .int .i64 b, .int .i64 c, .int .i64 n, .int .i64 k, .int .i64 i, .string t]] w
      fun e w' => e = .returned (.bool (numB ar o n)) ∧ Below w.heap.size w w' := by
  have hb := hid (below2 w (po nm ar (.slice ao len cap)) (io o a b c n k i t))
  by_cases e2 : (o == 2) = true
  · obtain rfl : o = 2 := by simpa using e2
    rcases Bool.eq_false_or_eq_true (decide (0 ≤ n)) with h1 | h1 <;> rcases Bool.eq_false_or_eq_true (decide (n < ar)) with h2 | h2 <;>
    · go_enter Tryz.func88, Tryz.ntmps88
      go_wp2
      go_ret
      exact ⟨by simp [numB, h1, h2], hb.out⟩
  have e2 : (o == 2) = false := by simpa using e2
  by_cases f1 : o = 10 ∨ o = 11
  · rcases f1 with rfl | rfl <;> rcases Bool.eq_false_or_eq_true (decide (1 ≤ n)) with h1 | h1 <;> rcases Bool.eq_false_or_eq_true (decide (n ≤ 6)) with h2 | h2 <;>
    · go_enter Tryz.func88, Tryz.ntmps88
      go_wp2
      go_ret
      exact ⟨by simp [numB, h1, h2], hb.out⟩
  by_cases f2 : o = 12 ∨ o = 13
  · rcases f2 with rfl | rfl <;> rcases Bool.eq_false_or_eq_true (decide (1 ≤ n)) with h1 | h1 <;> rcases Bool.eq_false_or_eq_true (decide (n ≤ 64)) with h2 | h2 <;>
    · go_enter Tryz.func88, Tryz.ntmps88
      go_wp2
      go_ret
      exact ⟨by simp [numB, h1, h2], hb.out⟩
  have g1 : (o == 10) = false := by simp; omega
  have g2 : (o == 11) = false := by simp; omega
  have g3 : (o == 12) = false := by simp; omega
  have g4 : (o == 13) = false := by simp; omega
  rcases Bool.eq_false_or_eq_true (n == 0) with h1 | h1 <;>
  · have F := hid (And.intro f1 f2)
    clear f1 f2
    go_enter Tryz.func88, Tryz.ntmps88
    go_wp2
    go_ret
    exact ⟨by have e3 : ¬ o = 2 := by simpa using e2
              rw [numB, if_neg e3, if_neg F.out.1, if_neg F.out.2, h1]
              rfl, hb.out⟩

end Go.Proofs.YtdnlfacfleemeaaGreat

namespace Go.Proofs.YtdnlfacfleemeaaGreat
open Go.RowKit

/-- The error of an instruction, as the document finds it. -/
def rinsErr (L : ByteArray) (qA qa qB qC qN qV : Bool) (d1 d2 : Bool) (k i : Int) (t : ByteArray) : Int :=
  if L = ⟨#[63]⟩ then 16 else if ((if qa then d1 && d2 else qA) && qB && qC && qN) = true then (if qV then chk k i t else if k = 0 ∧ i = 0 ∧ t = emp then 0 else 16) else 16

def rinsErrOf (x : Ins) (ar bh : Int) : Int :=
  rinsErr (fdS x.op) (regB (fdS x.op) 65 x.a) (decide (97 ∈ strBs (fdS x.op))) (regB (fdS x.op) 66 x.b) (regB (fdS x.op) 67 x.c) (numB ar x.op x.n) (decide (86 ∈ strBs (fdS x.op))) (decide (1 ≤ x.a)) (decide (x.a ≤ bh)) x.k x.i x.t

theorem d16 (v : Int) : (decide (0 ≤ v) && decide (v < 16)) = withinB v 0 15 := by
  rw [withinB, Bool.eq_iff_iff]
  simp
  omega
theorem dar (n ar : Int) : (decide (0 ≤ n) && decide (n < ar)) = withinB n 0 (ar - 1) := by
  rw [withinB, Bool.eq_iff_iff]
  simp
  omega
theorem dwi (n l m : Int) : (decide (l ≤ n) && decide (n ≤ m)) = withinB n l m := rfl
theorem tf (p : Prop) : p = True ∨ p = False := by
  by_cases h : p
  · exact .inl (eq_true h)
  · exact .inr (eq_false h)

theorem chk0 : chk 0 0 emp = 0 := by decide

theorem rinsErr_eq (x : Ins) (ar bh : Int) (har : withinB ar 0 16 = true) : rinsErrOf x ar bh = insErr x ar bh := by
  obtain ⟨o, a, b, c, n, k, i, t⟩ := x
  have hw : wrap64 (ar - 1) = ar - 1 := by
    simp [withinB] at har
    unfold wrap64; omega
  rcases op_cases o with rfl | rfl | rfl | rfl | rfl | rfl | rfl | rfl | rfl | rfl | rfl | rfl | rfl | rfl | rfl | rfl | h
  case inr.inr.inr.inr.inr.inr.inr.inr.inr.inr.inr.inr.inr.inr.inr.inr =>
    simp only [rinsErrOf, fdS_none o h, rinsErr, insErr]
    rw [if_pos trivial, if_neg h]
  · simp only [rinsErrOf, rinsErr, insErr, opErr, regB, numB, dar, dwi]
    by_cases hz : k = 0 ∧ i = 0 ∧ t = emp
    · obtain ⟨rfl, rfl, rfl⟩ := hz
      rcases Bool.eq_false_or_eq_true (withinB a 0 15) with wA | wA <;> simp [fdS, opN, opF, chkF, Fk.fits, Fk.get, Fk.set, strBs, and_assoc, chk0, wA]
    · rcases Bool.eq_false_or_eq_true (withinB a 0 15) with wA | wA <;> simp [fdS, opN, opF, chkF, Fk.fits, Fk.get, Fk.set, strBs, and_assoc, hz, wA]
  · simp only [rinsErrOf, rinsErr, insErr, opErr, regB, numB, dar, dwi]
    by_cases hz : k = 0 ∧ i = 0 ∧ t = emp
    · obtain ⟨rfl, rfl, rfl⟩ := hz
      rcases Bool.eq_false_or_eq_true (withinB a 0 15) with wA | wA <;> rcases Bool.eq_false_or_eq_true (withinB n 0 (ar - 1)) with w1 | w1 <;> simp [fdS, opN, opF, chkF, Fk.fits, Fk.get, Fk.set, strBs, hw, chk0, wA, w1]
    · rcases Bool.eq_false_or_eq_true (withinB a 0 15) with wA | wA <;> rcases Bool.eq_false_or_eq_true (withinB n 0 (ar - 1)) with w1 | w1 <;> simp [fdS, opN, opF, chkF, Fk.fits, Fk.get, Fk.set, strBs, hw, hz, wA, w1]
  · simp only [rinsErrOf, rinsErr, insErr, opErr, regB, numB, dar, dwi]
    by_cases hz : k = 0 ∧ i = 0 ∧ t = emp
    · obtain ⟨rfl, rfl, rfl⟩ := hz
      rcases Bool.eq_false_or_eq_true (withinB a 0 15) with wA | wA <;> rcases Bool.eq_false_or_eq_true (withinB b 0 15) with wB | wB <;> simp [fdS, opN, opF, chkF, Fk.fits, Fk.get, Fk.set, strBs, chk0, wA, wB]
    · rcases Bool.eq_false_or_eq_true (withinB a 0 15) with wA | wA <;> rcases Bool.eq_false_or_eq_true (withinB b 0 15) with wB | wB <;> simp [fdS, opN, opF, chkF, Fk.fits, Fk.get, Fk.set, strBs, hz, wA, wB]
  · simp only [rinsErrOf, rinsErr, insErr, opErr, regB, numB, dar, dwi]
    by_cases hz : k = 0 ∧ i = 0 ∧ t = emp
    · obtain ⟨rfl, rfl, rfl⟩ := hz
      rcases Bool.eq_false_or_eq_true (withinB a 0 15) with wA | wA <;> rcases Bool.eq_false_or_eq_true (withinB b 0 15) with wB | wB <;> simp [fdS, opN, opF, chkF, Fk.fits, Fk.get, Fk.set, strBs, chk0, wA, wB]
    · rcases Bool.eq_false_or_eq_true (withinB a 0 15) with wA | wA <;> rcases Bool.eq_false_or_eq_true (withinB b 0 15) with wB | wB <;> simp [fdS, opN, opF, chkF, Fk.fits, Fk.get, Fk.set, strBs, hz, wA, wB]
  · simp only [rinsErrOf, rinsErr, insErr, opErr, regB, numB, dar, dwi]
    by_cases hz : k = 0 ∧ i = 0 ∧ t = emp
    · obtain ⟨rfl, rfl, rfl⟩ := hz
      rcases Bool.eq_false_or_eq_true (withinB a 0 15) with wA | wA <;> simp [fdS, opN, opF, chkF, Fk.fits, Fk.get, Fk.set, strBs, and_assoc, chk0, wA]
    · rcases Bool.eq_false_or_eq_true (withinB a 0 15) with wA | wA <;> simp [fdS, opN, opF, chkF, Fk.fits, Fk.get, Fk.set, strBs, and_assoc, hz, wA]
  · simp only [rinsErrOf, rinsErr, insErr, opErr, regB, numB, dar, dwi]
    by_cases hz : k = 0 ∧ i = 0 ∧ t = emp
    · obtain ⟨rfl, rfl, rfl⟩ := hz
      rcases Bool.eq_false_or_eq_true (withinB a 0 15) with wA | wA <;> rcases Bool.eq_false_or_eq_true (withinB b 0 15) with wB | wB <;> rcases Bool.eq_false_or_eq_true (withinB c 0 15) with wC | wC <;> simp [fdS, opN, opF, chkF, Fk.fits, Fk.get, Fk.set, strBs, chk0, wA, wB, wC]
    · rcases Bool.eq_false_or_eq_true (withinB a 0 15) with wA | wA <;> rcases Bool.eq_false_or_eq_true (withinB b 0 15) with wB | wB <;> rcases Bool.eq_false_or_eq_true (withinB c 0 15) with wC | wC <;> simp [fdS, opN, opF, chkF, Fk.fits, Fk.get, Fk.set, strBs, hz, wA, wB, wC]
  · simp only [rinsErrOf, rinsErr, insErr, opErr, regB, numB, dar, dwi]
    by_cases hz : k = 0 ∧ i = 0 ∧ t = emp
    · obtain ⟨rfl, rfl, rfl⟩ := hz
      rcases Bool.eq_false_or_eq_true (withinB a 0 15) with wA | wA <;> rcases Bool.eq_false_or_eq_true (withinB b 0 15) with wB | wB <;> rcases Bool.eq_false_or_eq_true (withinB c 0 15) with wC | wC <;> simp [fdS, opN, opF, chkF, Fk.fits, Fk.get, Fk.set, strBs, chk0, wA, wB, wC]
    · rcases Bool.eq_false_or_eq_true (withinB a 0 15) with wA | wA <;> rcases Bool.eq_false_or_eq_true (withinB b 0 15) with wB | wB <;> rcases Bool.eq_false_or_eq_true (withinB c 0 15) with wC | wC <;> simp [fdS, opN, opF, chkF, Fk.fits, Fk.get, Fk.set, strBs, hz, wA, wB, wC]
  · simp only [rinsErrOf, rinsErr, insErr, opErr, regB, numB, dar, dwi]
    by_cases hz : k = 0 ∧ i = 0 ∧ t = emp
    · obtain ⟨rfl, rfl, rfl⟩ := hz
      rcases Bool.eq_false_or_eq_true (withinB a 0 15) with wA | wA <;> rcases Bool.eq_false_or_eq_true (withinB b 0 15) with wB | wB <;> rcases Bool.eq_false_or_eq_true (withinB c 0 15) with wC | wC <;> simp [fdS, opN, opF, chkF, Fk.fits, Fk.get, Fk.set, strBs, chk0, wA, wB, wC]
    · rcases Bool.eq_false_or_eq_true (withinB a 0 15) with wA | wA <;> rcases Bool.eq_false_or_eq_true (withinB b 0 15) with wB | wB <;> rcases Bool.eq_false_or_eq_true (withinB c 0 15) with wC | wC <;> simp [fdS, opN, opF, chkF, Fk.fits, Fk.get, Fk.set, strBs, hz, wA, wB, wC]
  · simp only [rinsErrOf, rinsErr, insErr, opErr, regB, numB, dar, dwi]
    by_cases hz : k = 0 ∧ i = 0 ∧ t = emp
    · obtain ⟨rfl, rfl, rfl⟩ := hz
      rcases Bool.eq_false_or_eq_true (withinB a 0 15) with wA | wA <;> rcases Bool.eq_false_or_eq_true (withinB b 0 15) with wB | wB <;> rcases Bool.eq_false_or_eq_true (withinB c 0 15) with wC | wC <;> simp [fdS, opN, opF, chkF, Fk.fits, Fk.get, Fk.set, strBs, chk0, wA, wB, wC]
    · rcases Bool.eq_false_or_eq_true (withinB a 0 15) with wA | wA <;> rcases Bool.eq_false_or_eq_true (withinB b 0 15) with wB | wB <;> rcases Bool.eq_false_or_eq_true (withinB c 0 15) with wC | wC <;> simp [fdS, opN, opF, chkF, Fk.fits, Fk.get, Fk.set, strBs, hz, wA, wB, wC]
  · simp only [rinsErrOf, rinsErr, insErr, opErr, regB, numB, dar, dwi]
    by_cases hz : k = 0 ∧ i = 0 ∧ t = emp
    · obtain ⟨rfl, rfl, rfl⟩ := hz
      rcases Bool.eq_false_or_eq_true (withinB b 0 15) with wB | wB <;> rcases Bool.eq_false_or_eq_true (withinB c 0 15) with wC | wC <;> rcases Bool.eq_false_or_eq_true (withinB n 1 6) with w6 | w6 <;> simp [fdS, opN, opF, chkF, Fk.fits, Fk.get, Fk.set, strBs, chk0, wB, wC, w6]
    · rcases Bool.eq_false_or_eq_true (withinB b 0 15) with wB | wB <;> rcases Bool.eq_false_or_eq_true (withinB c 0 15) with wC | wC <;> rcases Bool.eq_false_or_eq_true (withinB n 1 6) with w6 | w6 <;> simp [fdS, opN, opF, chkF, Fk.fits, Fk.get, Fk.set, strBs, hz, wB, wC, w6]
  · simp only [rinsErrOf, rinsErr, insErr, opErr, regB, numB, dar, dwi]
    by_cases hz : k = 0 ∧ i = 0 ∧ t = emp
    · obtain ⟨rfl, rfl, rfl⟩ := hz
      rcases Bool.eq_false_or_eq_true (withinB a 1 bh) with wS | wS <;> rcases Bool.eq_false_or_eq_true (withinB b 0 15) with wB | wB <;> rcases Bool.eq_false_or_eq_true (withinB c 0 15) with wC | wC <;> rcases Bool.eq_false_or_eq_true (withinB n 1 6) with w6 | w6 <;> simp [fdS, opN, opF, chkF, Fk.fits, Fk.get, Fk.set, strBs, chk0, wS, wB, wC, w6]
    · rcases Bool.eq_false_or_eq_true (withinB a 1 bh) with wS | wS <;> rcases Bool.eq_false_or_eq_true (withinB b 0 15) with wB | wB <;> rcases Bool.eq_false_or_eq_true (withinB c 0 15) with wC | wC <;> rcases Bool.eq_false_or_eq_true (withinB n 1 6) with w6 | w6 <;> simp [fdS, opN, opF, chkF, Fk.fits, Fk.get, Fk.set, strBs, hz, wS, wB, wC, w6]
  · simp only [rinsErrOf, rinsErr, insErr, opErr, regB, numB, dar, dwi]
    by_cases hz : k = 0 ∧ i = 0 ∧ t = emp
    · obtain ⟨rfl, rfl, rfl⟩ := hz
      rcases Bool.eq_false_or_eq_true (withinB a 0 15) with wA | wA <;> rcases Bool.eq_false_or_eq_true (withinB b 0 15) with wB | wB <;> rcases Bool.eq_false_or_eq_true (withinB c 0 15) with wC | wC <;> rcases Bool.eq_false_or_eq_true (withinB n 1 64) with wL | wL <;> simp [fdS, opN, opF, chkF, Fk.fits, Fk.get, Fk.set, strBs, chk0, wA, wB, wC, wL]
    · rcases Bool.eq_false_or_eq_true (withinB a 0 15) with wA | wA <;> rcases Bool.eq_false_or_eq_true (withinB b 0 15) with wB | wB <;> rcases Bool.eq_false_or_eq_true (withinB c 0 15) with wC | wC <;> rcases Bool.eq_false_or_eq_true (withinB n 1 64) with wL | wL <;> simp [fdS, opN, opF, chkF, Fk.fits, Fk.get, Fk.set, strBs, hz, wA, wB, wC, wL]
  · simp only [rinsErrOf, rinsErr, insErr, opErr, regB, numB, dar, dwi]
    by_cases hz : k = 0 ∧ i = 0 ∧ t = emp
    · obtain ⟨rfl, rfl, rfl⟩ := hz
      rcases Bool.eq_false_or_eq_true (withinB a 0 15) with wA | wA <;> rcases Bool.eq_false_or_eq_true (withinB b 0 15) with wB | wB <;> rcases Bool.eq_false_or_eq_true (withinB c 0 15) with wC | wC <;> rcases Bool.eq_false_or_eq_true (withinB n 1 64) with wL | wL <;> simp [fdS, opN, opF, chkF, Fk.fits, Fk.get, Fk.set, strBs, chk0, wA, wB, wC, wL]
    · rcases Bool.eq_false_or_eq_true (withinB a 0 15) with wA | wA <;> rcases Bool.eq_false_or_eq_true (withinB b 0 15) with wB | wB <;> rcases Bool.eq_false_or_eq_true (withinB c 0 15) with wC | wC <;> rcases Bool.eq_false_or_eq_true (withinB n 1 64) with wL | wL <;> simp [fdS, opN, opF, chkF, Fk.fits, Fk.get, Fk.set, strBs, hz, wA, wB, wC, wL]
  · simp only [rinsErrOf, rinsErr, insErr, opErr, regB, numB, dar, dwi]
    by_cases hz : k = 0 ∧ i = 0 ∧ t = emp
    · obtain ⟨rfl, rfl, rfl⟩ := hz
      rcases Bool.eq_false_or_eq_true (withinB a 0 15) with wA | wA <;> rcases Bool.eq_false_or_eq_true (withinB b 0 15) with wB | wB <;> simp [fdS, opN, opF, chkF, Fk.fits, Fk.get, Fk.set, strBs, chk0, wA, wB]
    · rcases Bool.eq_false_or_eq_true (withinB a 0 15) with wA | wA <;> rcases Bool.eq_false_or_eq_true (withinB b 0 15) with wB | wB <;> simp [fdS, opN, opF, chkF, Fk.fits, Fk.get, Fk.set, strBs, hz, wA, wB]
  · simp only [rinsErrOf, rinsErr, insErr, opErr, regB, numB, dar, dwi]
    by_cases hz : k = 0 ∧ i = 0 ∧ t = emp
    · obtain ⟨rfl, rfl, rfl⟩ := hz
      rcases Bool.eq_false_or_eq_true (withinB a 0 15) with wA | wA <;> simp [fdS, opN, opF, chkF, Fk.fits, Fk.get, Fk.set, strBs, and_assoc, chk0, wA]
    · rcases Bool.eq_false_or_eq_true (withinB a 0 15) with wA | wA <;> simp [fdS, opN, opF, chkF, Fk.fits, Fk.get, Fk.set, strBs, and_assoc, hz, wA]
  · simp only [rinsErrOf, rinsErr, insErr, opErr, regB, numB, dar, dwi]
    by_cases hz : k = 0 ∧ i = 0 ∧ t = emp
    · obtain ⟨rfl, rfl, rfl⟩ := hz
      simp [fdS, opN, opF, chkF, strBs, and_assoc, chk0]
    · simp [fdS, opN, opF, chkF, strBs, and_assoc, hz]

end Go.Proofs.YtdnlfacfleemeaaGreat

namespace Go.Proofs.YtdnlfacfleemeaaGreat
open Go.RowKit Go.Lib

set_option maxRecDepth 100000 in
set_option maxHeartbeats 1600000 in
theorem rcheck_any (k i : Int) (s : ByteArray) (w : World) : Calls Tryz.prog 38 #[vl k i s] w fun x w' => x = .returned (.int .i64 (chk k i s)) ∧ Below w.heap.size w w' := by
  have hB0 := hid (below1 w (vo k i s))
  obtain ⟨r, hr⟩ : ∃ r, r = chk k i s := ⟨_, rfl⟩
  rw [← hr]
  have HR := hid hr
  clear hr
  have e0 : emp.toList = [] := emp_toList
  by_cases h1 : k = 1
  · subst h1
    by_cases hs : s = emp
    · subst hs
      go_enter Tryz.func38, Tryz.ntmps38
      go_wp2
      go_ret
      exact ⟨by rw [HR.out]; rfl, hB0.out⟩
    · obtain ⟨q1, q2, q3, q4⟩ := str_ne2 hs
      go_enter Tryz.func38, Tryz.ntmps38
      go_wp2
      go_ret
      exact ⟨by rw [HR.out, show chk 1 i s = 14 by simp [chk, hs]]; rfl, hB0.out⟩
  · have b1 : (k == 1) = false := by simpa using h1
    by_cases h2 : k = 2
    · subst h2
      by_cases hi : i = 0
      · subst hi
        by_cases hg : (256 : Int) < s.size
        · go_enter Tryz.func38, Tryz.ntmps38
          go_wp2
          go_ret
          exact ⟨by rw [HR.out, show chk 2 0 s = 4 by simp [chk]; omega]; rfl, hB0.out⟩
        · go_enter Tryz.func38, Tryz.ntmps38
          go_wp2
          go_ret
          exact ⟨by rw [HR.out, show chk 2 0 s = 0 by simp [chk]; omega]; rfl, hB0.out⟩
      · have bi : (i == 0) = false := by simpa using hi
        go_enter Tryz.func38, Tryz.ntmps38
        go_wp2
        go_ret
        exact ⟨by rw [HR.out, show chk 2 i s = 14 by simp [chk, hi]]; rfl, hB0.out⟩
    · have b2 : (k == 2) = false := by simpa using h2
      by_cases hk : k = 0
      · subst hk
        by_cases hi : i = 0
        · subst hi
          by_cases hs : s = emp
          · subst hs
            go_enter Tryz.func38, Tryz.ntmps38
            go_wp2
            go_ret
            exact ⟨by rw [HR.out]; rfl, hB0.out⟩
          · obtain ⟨q1, q2, q3, q4⟩ := str_ne2 hs
            go_enter Tryz.func38, Tryz.ntmps38
            go_wp2
            go_ret
            exact ⟨by rw [HR.out, show chk 0 0 s = 14 by simp [chk, hs]]; rfl, hB0.out⟩
        · have bi : (i == 0) = false := by simpa using hi
          go_enter Tryz.func38, Tryz.ntmps38
          go_wp2
          go_ret
          exact ⟨by rw [HR.out, show chk 0 i s = 14 by simp [chk, hi]]; rfl, hB0.out⟩
      · by_cases hn : k < 0
        · go_enter Tryz.func38, Tryz.ntmps38
          go_wp2
          go_ret
          exact ⟨by rw [HR.out, show chk k i s = 14 by simp [chk, h1, h2, hk]]; rfl, hB0.out⟩
        · have hp : 2 < k := by omega
          go_enter Tryz.func38, Tryz.ntmps38
          go_wp2
          go_ret
          exact ⟨by rw [HR.out, show chk k i s = 14 by simp [chk, h1, h2, hk]]; rfl, hB0.out⟩

end Go.Proofs.YtdnlfacfleemeaaGreat
