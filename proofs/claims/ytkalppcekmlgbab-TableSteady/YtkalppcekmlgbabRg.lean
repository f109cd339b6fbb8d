import Derived.Test.YtkalppcekmlgbabRf
namespace Go.Proofs.Ytkalppcekmlgbab
open Go.RowKit

theorem Rf.keptE {w w' : World} {m : Nat} {v : Value} {n : Nat} {cs : List Value} {S : Nat → Prop} (h : Rf w m v n cs) (hk : Kept S w w') (hn : cs ≠ [] → ∀ k, v.ownBlock = some k → ¬ S k) : Rf w' m v n cs := by
  by_cases hc : cs = []
  · obtain ⟨h0, h1, h2⟩ := h
    refine ⟨h0, h1, ?_⟩
    rcases h2 with h2 | ⟨a, cap, h3, h4, h5, _⟩
    · exact .inl h2
    · exact .inr ⟨a, cap, h3, h4, h5, fun j u hu => by rw [hc] at hu; simp at hu⟩
  · exact h.kept hk (hn hc)

/-- A list that is not empty lies in memory that is there. -/
theorem Rf.there {w : World} {m : Nat} {v : Value} {n : Nat} {cs : List Value} (h : Rf w m v n cs) (hc : cs ≠ []) : ∀ k, v.ownBlock = some k → k < w.heap.size := by
  intro k hk
  obtain ⟨-, -, h2⟩ := h
  rcases h2 with ⟨rfl, _⟩ | ⟨a, cap, rfl, -, -, h3⟩
  · cases hk
  · have h0 := h3 0 (cs[0]'(by cases cs; exact absurd rfl hc; simp)) (by simp)
    have e : (a.add 0).block = a.block := by unfold Addr.add; split <;> rfl
    have := World.block_lt_of_cell? _ _ h0
    rw [e] at this
    simp only [Value.ownBlock, Option.some.injEq] at hk
    omega

end Go.Proofs.Ytkalppcekmlgbab
