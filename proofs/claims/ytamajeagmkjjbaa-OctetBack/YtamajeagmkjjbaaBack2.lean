import Derived.Test.YtamajeagmkjjbaaBack1
namespace Go.Proofs.Ytamajeagmkjjbaa
open Go.RowKit

/-- What was read as a row is the row of what was read. -/
theorem rowF_rowGo (last : Nat) (top : Int) (t0 : 0 ≤ top) (t1 : top ≤ 127) (bs : List Int) : ∀ (i : Nat) (acc r n : Int), Oct bs → i < last → rowGo last top bs i acc = (r, n, 0) →
    ∃ (u : Int) (k : Nat), r = acc + u * 128 ^ i ∧ n = (i : Int) + k ∧ 1 ≤ k ∧ k ≤ bs.length ∧ i + k ≤ last ∧ 0 ≤ u ∧ (i = 0 ∨ 0 < u) ∧ u < 128 ^ k ∧ ∀ f, k ≤ f + 1 → rowF f u = bs.take k := by
  induction bs with
  | nil => intro i acc r n _ _ h; simp [rowGo] at h
  | cons c cs ih =>
    intro i acc r n ho hi h
    have hc : 0 ≤ c ∧ c < 256 := ho c (List.mem_cons_self ..)
    have hcs : Oct cs := fun x hx => ho x (List.mem_cons_of_mem _ hx)
    rw [rowGo] at h
    by_cases h1 : i + 1 = last ∧ top < c
    · rw [if_pos h1] at h; simp at h
    · rw [if_neg h1] at h
      by_cases h2 : 128 ≤ c
      · rw [if_pos h2] at h
        obtain ⟨u, k, hr, hn, k1, k2, k3, u0, u1, u2, hf⟩ := ih (i + 1) _ r n hcs (by omega) h
        have up : 0 < u := by omega
        refine ⟨c % 128 + 128 * u, k + 1, ?_, by omega, by omega, by simp; omega, by omega, by omega, by omega, ?_, ?_⟩
        · rw [hr, Int.pow_succ, Int.add_mul, Int.mul_comm 128 u, Int.mul_assoc, Int.mul_comm 128 (128 ^ i), Int.add_assoc]
        · rw [Int.pow_succ]; omega
        · intro f hk
          obtain ⟨f', rfl⟩ : ∃ f', f = f' + 1 := ⟨f - 1, by omega⟩
          rw [rowF_more f' _ (by omega), show (c % 128 + 128 * u) / 128 = u by omega, hf f' (by omega), List.take_succ_cons]
          have e : (c % 128 + 128 * u) % 128 + 128 = c := by omega
          rw [e]; rfl
      · rw [if_neg h2] at h
        by_cases h3 : 0 < i ∧ c = 0
        · rw [if_pos h3] at h; simp at h
        · rw [if_neg h3] at h
          injection h with ha hb
          injection hb with hb _
          refine ⟨c, 1, ?_, by omega, by omega, by simp, by omega, by omega, by omega, by omega, ?_⟩
          · rw [← ha, Int.emod_eq_of_lt (by omega) (by omega)]
          · intro f _
            rw [rowF_last f c (by omega)]; simp

/-- Bytes that were read as a number, laid again. -/
theorem fixedB_leZ (l : List Int) (h : Oct l) : fixedB l.length (leZ l) = l := by
  induction l with
  | nil => simp [fixedB]
  | cons c cs ih =>
    have hc : 0 ≤ c ∧ c < 256 := h c (List.mem_cons_self ..)
    have hcs : Oct cs := fun x hx => h x (List.mem_cons_of_mem _ hx)
    have hi := ih hcs
    unfold fixedB at hi ⊢
    rw [List.length_cons, List.range_succ_eq_map, List.map_cons, List.map_map, leZ]
    congr 1
    · rw [Int.pow_zero]; omega
    · conv => rhs; rw [← hi]
      apply List.map_congr_left
      intro i _
      simp only [Function.comp]
      rw [Int.pow_succ, Int.mul_comm (256 ^ i) 256, ← Int.ediv_ediv_of_nonneg (by omega)]
      rw [show (c + 256 * leZ cs) / 256 = leZ cs by omega]

end Go.Proofs.Ytamajeagmkjjbaa
