import Derived.Test.YtamajeagmkjjbaaBack2
import Derived.Test.YtamajeagmkjjbaaR2
import Derived.Test.YtamajeagmkjjbaaSl2
import Derived.Test.YtamajeagmkjjbaaWtext
namespace Go.Proofs.Ytamajeagmkjjbaa
open Go.RowKit

theorem rowF_enough (k : Nat) : ∀ (f : Nat) (u : Int), u < 128 ^ (f + 1) → rowF (f + k) u = rowF f u := by
  intro f
  induction f with
  | zero => intro u h; simp at h; rw [rowF_last _ u (by omega), rowF_last _ u (by omega)]
  | succ f ih =>
    intro u h
    by_cases hu : 127 < u
    · rw [show f + 1 + k = f + k + 1 by omega, rowF_more _ u hu, rowF_more _ u hu, ih _ (pow_step f u h)]
    · rw [rowF_last _ u hu, rowF_last _ u hu]

theorem lead_num (f : Int) (hf : f = 1 ∨ f = 3) (v n : Int) (rest : List Int) (h0 : 0 ≤ v) (h1 : v < 9223372036854775808) : leadZ f (rowF 10 v ++ rest) n = (v, ((rowF 10 v).length : Int), 0) := by
  have e : rowF 10 v = rowF 8 v := rowF_enough 2 8 v (by simpa using h1)
  unfold leadZ
  rw [if_neg (by omega), if_neg (by omega), e, rowGo_rowF 9 127 rest 8 v 0 0 h0 (by simpa using h1) (.inl rfl) (by omega) (fun _ => by simpa using h1) (by omega) (by omega)]
  simp

theorem lead_int (v n : Int) (rest : List Int) (h0 : 0 ≤ v) (h1 : v < 18446744073709551616) : leadZ 2 (rowF 10 v ++ rest) n = (v, ((rowF 10 v).length : Int), 0) := by
  have e : rowF 10 v = rowF 9 v := rowF_enough 1 9 v (by simp; omega)
  unfold leadZ
  rw [if_neg (by omega), if_pos rfl, e, rowGo_rowF 10 1 rest 9 v 0 0 h0 (by simp; omega) (.inl rfl) (by omega) (fun _ => by simpa using h1) (by omega) (by omega)]
  simp

theorem lead_fix (v n : Int) (rest : List Int) (h0 : 0 ≤ v) (n0 : 0 ≤ n) (n8 : n ≤ 8) : leadZ 0 (fixedB n.toNat v ++ rest) n = (v % 256 ^ n.toNat, n, 0) := by
  unfold leadZ fixZ
  rw [if_pos rfl, if_neg (by omega), if_neg (by simp [fixedB_len]; omega), List.take_left' (fixedB_len _ _), leZ_fixedB _ _ h0]

theorem mkStr_strBs (s : ByteArray) : mkStr (strBs s) = s := by
  unfold mkStr strBs
  rw [List.map_map]
  have : ((fun x : Int => UInt8.ofNat x.toNat) ∘ fun b : UInt8 => (b.toNat : Int)) = id := by
    funext b; simp
  rw [this, List.map_id]

end Go.Proofs.Ytamajeagmkjjbaa
