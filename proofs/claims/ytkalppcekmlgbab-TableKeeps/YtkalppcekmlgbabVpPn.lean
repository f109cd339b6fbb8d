import Derived.Test.YtkalppcekmlgbabVpPa
namespace Go.Proofs.Ytkalppcekmlgbab.Vp

theorem nd_two {b c : Nat} {L X R : List Nat} (h : (b :: ((L ++ c :: X) ++ R)).Nodup) : b ≠ c ∧ (∀ i, i ∈ L ∨ i ∈ X ∨ i ∈ R → i ≠ b ∧ i ≠ c) := by
  grind
theorem nd_three {b c d : Nat} {L X Y R : List Nat} (h : (b :: ((L ++ c :: (X ++ d :: Y)) ++ R)).Nodup) : b ≠ c ∧ b ≠ d ∧ c ≠ d ∧ (∀ i, i ∈ L ∨ i ∈ X ∨ i ∈ Y ∨ i ∈ R → i ≠ b ∧ i ≠ c ∧ i ≠ d) := by
  grind
theorem nd_two' {b c : Nat} {L X R : List Nat} (h : (b :: (R ++ (L ++ c :: X))).Nodup) : b ≠ c ∧ (∀ i, i ∈ L ∨ i ∈ X ∨ i ∈ R → i ≠ b ∧ i ≠ c) := by
  grind
theorem nd_three' {b c d : Nat} {X Y L R : List Nat} (h : (b :: (R ++ ((Y ++ d :: X) ++ c :: L))).Nodup) : b ≠ c ∧ b ≠ d ∧ c ≠ d ∧ (∀ i, i ∈ L ∨ i ∈ X ∨ i ∈ Y ∨ i ∈ R → i ≠ b ∧ i ≠ c ∧ i ≠ d) := by
  grind
end Go.Proofs.Ytkalppcekmlgbab.Vp
