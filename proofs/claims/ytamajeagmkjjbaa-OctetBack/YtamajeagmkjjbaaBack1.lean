import Derived.Test.YtamajeagmkjjbaaR1
import Derived.Test.YtamajeagmkjjbaaWfix
import Derived.Test.YtamajeagmkjjbaaWrow
import Derived.Test.YtamajeagmkjjbaaW1
namespace Go.Proofs.Ytamajeagmkjjbaa
open Go.RowKit

theorem unfold_fold (v : Int) : unfoldZ (foldZ v) = v := by
  unfold unfoldZ foldZ
  split <;> split <;> omega

theorem fold_unfold (u : Int) (h : 0 ≤ u) : foldZ (unfoldZ u) = u := by
  unfold unfoldZ foldZ
  split <;> split <;> omega

/-- The bytes of a number, read again: the number in its n lowest bytes. -/
theorem leZ_fixedB (n : Nat) (v : Int) (_h : 0 ≤ v) : leZ (fixedB n v) = v % 256 ^ n := by
  induction n with
  | zero => simp [fixedB, leZ]
  | succ n ih =>
    rw [fixedB_succ, leZ_snoc, ih, fixedB_len, Int.pow_succ]
    have hp : (0 : Int) < 256 ^ n := Int.pow_pos (by omega)
    rw [Int.emod_def v (256 ^ n * 256), ← Int.ediv_ediv_of_nonneg (by omega), Int.emod_def v (256 ^ n), Int.emod_def (v / 256 ^ n) 256]
    generalize v / 256 ^ n = q
    generalize q / 256 = r
    generalize (256 : Int) ^ n = p
    rw [Int.sub_mul, Int.mul_assoc p 256 r, Int.mul_comm (256 * r) p, Int.mul_comm q p]
    omega

/-- A row, read again, whatever follows it. -/
theorem rowGo_rowF (last : Nat) (top : Int) (rest : List Int) (f : Nat) : ∀ (u : Int) (i : Nat) (acc : Int), 0 ≤ u → u < 128 ^ (f + 1) → (i = 0 ∨ 0 < u) → i + f + 1 ≤ last →
    (i + f + 1 = last → u < (top + 1) * 128 ^ f) → 0 ≤ top → top ≤ 127 →
    rowGo last top (rowF f u ++ rest) i acc = (acc + u * 128 ^ i, (i : Int) + (rowF f u).length, 0) := by
  induction f with
  | zero =>
    intro u i acc h0 h1 hi hl ht t0 t1
    simp at h1 ht
    rw [rowF, List.singleton_append, rowGo, if_neg (by omega), if_neg (by omega), if_neg (by omega)]
    rw [Int.emod_eq_of_lt h0 (by omega)]
    simp
  | succ f ih =>
    intro u i acc h0 h1 hi hl ht t0 t1
    by_cases hu : 127 < u
    · rw [rowF_more f u hu, List.append_assoc, List.singleton_append, rowGo, if_neg (by omega), if_pos (by omega)]
      rw [ih (u / 128) (i + 1) _ (by omega) (pow_step f u h1) (by omega) (by omega) ?_ t0 t1]
      · rw [show (u % 128 + 128) % 128 = u % 128 by omega, Int.pow_succ]
        have e : u = u % 128 + 128 * (u / 128) := by omega
        have e2 : u * 128 ^ i = u % 128 * 128 ^ i + u / 128 * (128 ^ i * 128) := by
          conv => lhs; rw [e]
          rw [Int.add_mul, Int.mul_comm 128 (u / 128), Int.mul_assoc, Int.mul_comm 128 (128 ^ i)]
        rw [e2]
        simp
        omega
      · intro hh
        have := ht (by omega)
        rw [Int.pow_succ, ← Int.mul_assoc] at this
        exact Int.ediv_lt_of_lt_mul (by omega) this
    · rw [rowF_last _ u hu, List.singleton_append, rowGo, if_neg (by omega), if_neg (by omega), if_neg (by omega)]
      rw [Int.emod_eq_of_lt h0 (by omega)]
      simp

end Go.Proofs.Ytamajeagmkjjbaa
