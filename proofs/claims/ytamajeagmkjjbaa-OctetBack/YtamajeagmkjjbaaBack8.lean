import Derived.Test.YtamajeagmkjjbaaBack7
namespace Go.Proofs.Ytamajeagmkjjbaa
open Go.RowKit

theorem layZ_stop (s : List Int × Int) (x : It) (h : s.2 ≠ 0) : layZ s x = s := by
  unfold layZ wfixZ wnumZ wintZ wtextZ
  simp [h]

/-- What is laid goes behind; an error leaves the bytes. -/
theorem layZ_pre (s : List Int × Int) (x : It) : ∃ r, (layZ s x).1 = s.1 ++ r ∧ ((layZ s x).2 ≠ 0 → r = []) := by
  by_cases h : s.2 = 0
  · unfold layZ
    have hf : ∀ v n, ∃ r, (wfixZ s v n).1 = s.1 ++ r ∧ ((wfixZ s v n).2 ≠ 0 → r = []) := by
      intro v n
      unfold wfixZ
      rw [if_pos h]
      split
      · exact ⟨[], by simp, fun _ => rfl⟩
      · exact ⟨_, rfl, fun hh => absurd rfl hh⟩
    split
    · exact hf _ _
    · split
      · exact hf _ _
      · split
        · unfold wnumZ
          rw [if_pos h]
          split
          · exact ⟨[], by simp, fun _ => rfl⟩
          · exact ⟨_, rfl, fun hh => absurd rfl hh⟩
        · split
          · unfold wintZ
            rw [if_pos h]
            exact ⟨_, rfl, fun hh => absurd rfl hh⟩
          · split
            · unfold wtextZ
              rw [if_pos h]
              exact ⟨_, List.append_assoc _ _ _, fun hh => absurd rfl hh⟩
            · exact ⟨[], by simp, fun _ => rfl⟩
  · exact ⟨[], by rw [layZ_stop s x h]; simp, fun _ => rfl⟩

/-- The first k Items laid. -/
def layN (its : List It) (k : Nat) : List Int × Int := (its.take k).foldl layZ ([], 0)

theorem layN_zero (its : List It) : layN its 0 = ([], 0) := rfl

theorem layN_succ (its : List It) (k : Nat) (h : k < its.length) : layN its (k + 1) = layZ (layN its k) its[k] := by
  unfold layN
  rw [List.take_succ_eq_append_getElem h, List.foldl_append]
  rfl

theorem layN_pre (its : List It) (k d : Nat) (h : k + d ≤ its.length) : (∃ r, (layN its (k + d)).1 = (layN its k).1 ++ r) ∧ ((layN its (k + d)).2 = 0 → (layN its k).2 = 0) := by
  induction d with
  | zero => exact ⟨⟨[], by simp⟩, fun h => h⟩
  | succ d ih =>
    obtain ⟨⟨r, hr⟩, hz⟩ := ih (by omega)
    rw [show k + (d + 1) = (k + d) + 1 by omega, layN_succ its (k + d) (by omega)]
    obtain ⟨r2, hr2, _⟩ := layZ_pre (layN its (k + d)) its[k + d]
    refine ⟨⟨r ++ r2, by rw [hr2, hr, List.append_assoc]⟩, fun h0 => hz ?_⟩
    by_cases hs : (layN its (k + d)).2 = 0
    · exact hs
    · rw [layZ_stop _ _ hs] at h0
      exact h0

/-- The Writer behind k calls: m Items laid, the last one maybe refused. -/
def Laid (its : List It) (k m : Nat) (s : List Int × Int) : Prop := m ≤ k ∧ (layN its m).2 = 0 ∧ s.1 = (layN its m).1 ∧ (s.2 = 0 → m = k) ∧ (s.2 ≠ 0 → k = m + 1)

theorem Laid.start (its : List It) : Laid its 0 0 ([], 0) := ⟨Nat.le_refl _, rfl, rfl, fun _ => rfl, fun h => absurd rfl h⟩

theorem Laid.next {its : List It} {k m : Nat} {s : List Int × Int} (h : Laid its k m s) (hs : s.2 = 0) (hk : k < its.length) : ∃ m', Laid its (k + 1) m' (layZ s its[k]) := by
  obtain ⟨h1, h2, h3, h4, h5⟩ := h
  obtain rfl := h4 hs
  have hss : layN its m = s := Prod.ext h3.symm (by rw [h2, hs])
  have hsu := layN_succ its m hk
  rw [hss] at hsu
  by_cases he : (layZ s its[m]).2 = 0
  · exact ⟨m + 1, Nat.le_refl _, by rw [hsu]; exact he, by rw [hsu], fun _ => rfl, fun h => absurd he h⟩
  · refine ⟨m, by omega, h2, ?_, fun h => absurd h he, fun _ => rfl⟩
    obtain ⟨r, hr, hz⟩ := layZ_pre s its[m]
    rw [hr, hz he, List.append_nil, h3]

theorem Oct.app {a b : List Int} (h1 : Oct a) (h2 : Oct b) : Oct (a ++ b) := by
  intro x hx
  rcases List.mem_append.1 hx with h | h
  · exact h1 x h
  · exact h2 x h

theorem oct_row (f : Nat) : ∀ u : Int, 0 ≤ u → u < 256 * 128 ^ f → Oct (rowF f u) := by
  induction f with
  | zero =>
    intro u h0 h1 x hx
    simp [rowF] at hx
    subst hx
    exact ⟨h0, by simpa using h1⟩
  | succ f ih =>
    intro u h0 h1
    rw [rowF]
    split
    · intro x hx
      rcases List.mem_cons.1 hx with h | h
      · subst h; omega
      · refine ih (u / 128) (by omega) ?_ x h
        have e : (256 : Int) * 128 ^ (f + 1) = 128 * (256 * 128 ^ f) := by rw [Int.pow_succ]; rw [Int.mul_comm (128 ^ f) 128, ← Int.mul_assoc, ← Int.mul_assoc]; rfl
        rw [e] at h1
        generalize (256 : Int) * 128 ^ f = P at *
        omega
    · intro x hx
      simp at hx
      subst hx
      omega

theorem oct_fixed (n : Nat) (v : Int) : Oct (fixedB n v) := by
  intro x hx
  unfold fixedB at hx
  obtain ⟨i, _, rfl⟩ := List.mem_map.1 hx
  exact ⟨Int.emod_nonneg _ (by omega), Int.emod_lt_of_pos _ (by omega)⟩

theorem oct_str (s : ByteArray) : Oct (strBs s) := by
  intro x hx
  unfold strBs at hx
  obtain ⟨b, _, rfl⟩ := List.mem_map.1 hx
  have := b.toNat_lt
  omega

theorem oct_lay (s : List Int × Int) (x : It) (hs : Oct s.1) (hx : x.ok) (hl : x.s.size ≤ 1000000000) : Oct (layZ s x).1 := by
  obtain ⟨_, ⟨n0, n1⟩, ⟨u0, u1⟩, ⟨i0, i1⟩, _⟩ := hx
  have hp : (256 : Int) * 128 ^ 10 = 302231454903657293676544 := by decide
  have hf : ∀ v n, Oct (wfixZ s v n).1 := by
    intro v n
    unfold wfixZ
    split
    · split
      · exact hs
      · exact hs.app (oct_fixed _ _)
    · exact hs
  unfold layZ
  split
  · exact hf _ _
  · split
    · exact hf _ _
    · split
      · unfold wnumZ
        split
        · split
          · exact hs
          · exact hs.app (oct_row 10 _ (by omega) (by rw [hp]; omega))
        · exact hs
      · split
        · unfold wintZ
          split
          · refine hs.app (oct_row 10 _ ?_ ?_)
            · unfold foldZ; split <;> omega
            · rw [hp]; unfold foldZ; split <;> omega
          · exact hs
        · split
          · unfold wtextZ
            split
            · refine (hs.app (oct_row 10 _ (by omega) ?_)).app (oct_str _)
              rw [hp, strBs_len]; omega
            · exact hs
          · exact hs

theorem oct_layN (its : List It) (hok : ∀ x ∈ its, x.ok) (hl : ∀ x ∈ its, x.s.size ≤ 1000000000) (k : Nat) (hk : k ≤ its.length) : Oct (layN its k).1 := by
  induction k with
  | zero => intro x hx; simp [layN] at hx
  | succ k ih =>
    rw [layN_succ its k (by omega)]
    exact oct_lay _ _ (ih (by omega)) (hok _ (List.getElem_mem _)) (hl _ (List.getElem_mem _))

end Go.Proofs.Ytamajeagmkjjbaa
