import Derived.Test.YtamajeagmkjjbaaBack6
namespace Go.Proofs.Ytamajeagmkjjbaa
open Go.RowKit

/-- Where nothing was taken the place stands. -/
theorem takeZ_err (f n : Int) (bs : List Int) (a : Nat) (e : Int) (h : (takeZ f n bs a e).2.2 ≠ 0) : (takeZ f n bs a e).2.1 = a := by
  unfold takeZ at h ⊢
  by_cases h0 : e = 0
  · rw [if_pos h0] at h ⊢
    by_cases h1 : (leadZ f (bs.drop a) n).2.2 = 0
    · rw [if_pos h1] at h ⊢
      by_cases h2 : f = 3
      · rw [if_pos h2] at h ⊢
        by_cases h3 : max n 0 < (leadZ f (bs.drop a) n).1
        · rw [if_pos h3]
        · rw [if_neg h3] at h ⊢
          by_cases h4 : ((bs.drop a).length : Int) - (leadZ f (bs.drop a) n).2.1 < (leadZ f (bs.drop a) n).1
          · rw [if_pos h4]
          · rw [if_neg h4] at h; exact absurd rfl h
      · rw [if_neg h2] at h; exact absurd rfl h
    · rw [if_neg h1]
  · rw [if_neg h0]

theorem itZ_err (x : It) (bs : List Int) (a : Nat) (e : Int) (h : (itZ x bs a e).2.2 ≠ 0) : (itZ x bs a e).2.1 = a := by
  unfold itZ at h ⊢
  split at h
  · rename_i k; rw [if_pos k]; exact takeZ_err _ _ _ _ _ h
  · rename_i k1; rw [if_neg k1]
    split at h
    · rename_i k; rw [if_pos k]; exact takeZ_err _ _ _ _ _ h
    · rename_i k2; rw [if_neg k2]
      split at h
      · rename_i k; rw [if_pos k]; exact takeZ_err _ _ _ _ _ h
      · rename_i k3; rw [if_neg k3]
        split at h
        · rename_i k; rw [if_pos k]; exact takeZ_err _ _ _ _ _ h
        · rename_i k4; rw [if_neg k4]
          split at h
          · rename_i k; rw [if_pos k]; exact takeZ_err _ _ _ _ _ h
          · rename_i k5; rw [if_neg k5]

theorem takeZ_len (f n : Int) (bs : List Int) (a : Nat) (e : Int) : (takeZ f n bs a e).1.2.length ≤ bs.length := by
  unfold takeZ
  split
  · split
    · split
      · split
        · simp
        · split
          · simp
          · dsimp only; rw [List.length_take, List.length_drop, List.length_drop]; omega
      · simp
    · simp
  · simp

theorem unfoldZ_bd (u : Int) (h0 : 0 ≤ u) (h1 : u < 18446744073709551616) : -9223372036854775808 ≤ unfoldZ u ∧ unfoldZ u < 9223372036854775808 := by
  unfold unfoldZ
  split <;> omega

/-- What is taken is within the kinds' bounds. -/
theorem itZ_bd (x : It) (bs : List Int) (a : Nat) (e : Int) (ho : Oct bs) : (0 ≤ (itZ x bs a e).1.1 ∧ (itZ x bs a e).1.1 < 18446744073709551616) ∧ (-9223372036854775808 ≤ (itZ x bs a e).1.2.1 ∧ (itZ x bs a e).1.2.1 < 9223372036854775808) ∧ (itZ x bs a e).1.2.2.length ≤ bs.length := by
  unfold itZ
  split
  · have := takeZ_bd 0 1 bs a e ho
    exact ⟨⟨this.1, this.2.1⟩, ⟨by dsimp only; omega, by dsimp only; omega⟩, by simp⟩
  · split
    · have := takeZ_bd 0 x.n bs a e ho
      exact ⟨⟨this.1, this.2.1⟩, ⟨by dsimp only; omega, by dsimp only; omega⟩, by simp⟩
    · split
      · have := takeZ_bd 1 0 bs a e ho
        have h2 := this.2.2.1 (by omega) (by omega)
        exact ⟨⟨by dsimp only; omega, by dsimp only; omega⟩, ⟨by dsimp only; omega, h2⟩, by simp⟩
      · split
        · have := takeZ_bd 2 0 bs a e ho
          have h2 := unfoldZ_bd _ this.1 this.2.1
          exact ⟨⟨by dsimp only; omega, by dsimp only; omega⟩, h2, by simp⟩
        · split
          · exact ⟨⟨by dsimp only; omega, by dsimp only; omega⟩, ⟨by dsimp only; omega, by dsimp only; omega⟩, takeZ_len _ _ _ _ _⟩
          · exact ⟨⟨by dsimp only; omega, by dsimp only; omega⟩, ⟨by dsimp only; omega, by dsimp only; omega⟩, by simp⟩

theorem mkStr_size (l : List Int) : (mkStr l).size = l.length := by
  unfold mkStr ByteArray.size
  simp

theorem got_ok (x : It) (hx : x.ok) (g : Int × Int × List Int) (h1 : 0 ≤ g.1 ∧ g.1 < 18446744073709551616) (h2 : -9223372036854775808 ≤ g.2.1 ∧ g.2.1 < 9223372036854775808) (h3 : g.2.2.length ≤ 1000000000) : (x.got g).ok ∧ (x.got g).s.size ≤ 1000000000 := by
  obtain ⟨k, n, u, i, s⟩ := hx
  have hs : (x.got g).s.size = g.2.2.length := mkStr_size _
  refine ⟨⟨k, ?_, h1, h2, by rw [hs]; omega⟩, by rw [hs]; exact h3⟩
  unfold It.got
  dsimp only
  split
  · exact h2
  · exact n

/-- An Item that may be long is good still. -/
theorem long_ok (x : It) (hx : x.ok) (hs : x.s.size ≤ 1000000000) : x.long.ok := by
  unfold It.long
  split
  · obtain ⟨k, n, u, i, s⟩ := hx
    exact ⟨k, ⟨by dsimp only; omega, by dsimp only; omega⟩, u, i, s⟩
  · exact hx

theorem take_more (bs : List Int) (a a2 : Nat) (h1 : a ≤ a2) : bs.take a ++ (bs.drop a).take (a2 - a) = bs.take a2 := by
  obtain ⟨d, rfl⟩ := Nat.exists_eq_add_of_le h1
  rw [Nat.add_sub_cancel_left, List.take_add]

end Go.Proofs.Ytamajeagmkjjbaa
