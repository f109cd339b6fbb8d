import Derived.Test.YtamajeagmkjjbaaBack4
namespace Go.Proofs.Ytamajeagmkjjbaa
open Go.RowKit

theorem strBs_mkStr (l : List Int) (h : Oct l) : strBs (mkStr l) = l := by
  unfold mkStr strBs
  simp only [List.map_map]
  conv => rhs; rw [← List.map_id l]
  apply List.map_congr_left
  intro x hx
  have := h x hx
  simp only [Function.comp, id]
  rw [UInt8.toNat_ofNat']
  omega

theorem Oct.drop {l : List Int} (h : Oct l) (n : Nat) : Oct (l.drop n) := fun x hx => h x (List.mem_of_mem_drop hx)
theorem Oct.take {l : List Int} (h : Oct l) (n : Nat) : Oct (l.take n) := fun x hx => h x (List.mem_of_mem_take hx)

theorem three {t : Int × Int × Int} (h : t.2.2 = 0) : t = (t.1, t.2.1, 0) := by
  obtain ⟨a, b, c⟩ := t
  cases h; rfl

/-- A row that was read, laid again. -/
theorem row_again (f n : Int) (d : List Int) (hd : Oct d) (hf : f ≠ 0) (h : (leadZ f d n).2.2 = 0) :
    ∃ k : Nat, (leadZ f d n).2.1 = k ∧ 1 ≤ k ∧ k ≤ d.length ∧ 0 ≤ (leadZ f d n).1 ∧ rowF 10 (leadZ f d n).1 = d.take k := by
  unfold leadZ at h ⊢
  rw [if_neg hf] at h ⊢
  by_cases h2 : f = 2
  · rw [if_pos h2] at h ⊢
    obtain ⟨u, k, hr, hn, k1, k2, k3, u0, _, _, hrow⟩ := rowF_rowGo 10 1 (by omega) (by omega) d 0 0 (rowGo 10 1 d 0 0).1 (rowGo 10 1 d 0 0).2.1 hd (by omega) (three h)
    rw [hr, hn]
    refine ⟨k, by omega, k1, k2, by simpa using u0, ?_⟩
    rw [show (0 : Int) + u * 128 ^ 0 = u by simp]
    exact hrow 10 (by omega)
  · rw [if_neg h2] at h ⊢
    obtain ⟨u, k, hr, hn, k1, k2, k3, u0, _, _, hrow⟩ := rowF_rowGo 9 127 (by omega) (by omega) d 0 0 (rowGo 9 127 d 0 0).1 (rowGo 9 127 d 0 0).2.1 hd (by omega) (three h)
    rw [hr, hn]
    refine ⟨k, by omega, k1, k2, by simpa using u0, ?_⟩
    rw [show (0 : Int) + u * 128 ^ 0 = u by simp]
    exact hrow 10 (by omega)

/-- The Item with what was taken for it. -/
def It.got (x : It) (g : Int × Int × List Int) : It := { x with u := g.1, i := g.2.1, s := mkStr g.2.2, n := if x.kind = 3 then g.2.1 else x.n }

theorem takeZ_row {f n : Int} {bs : List Int} {at' a2 : Nat} {v : Int} {t : List Int} (hb : Oct bs) (hf0 : f ≠ 0) (hf : f ≠ 3) (h : takeZ f n bs at' 0 = ((v, t), a2, 0)) :
    0 ≤ v ∧ t = [] ∧ at' ≤ a2 ∧ a2 ≤ max at' bs.length ∧ rowF 10 v = (bs.drop at').take (a2 - at') := by
  unfold takeZ at h
  rw [if_pos rfl] at h
  by_cases h0 : (leadZ f (bs.drop at') n).2.2 = 0
  · rw [if_pos h0, if_neg hf] at h
    obtain ⟨k, hk, k1, k2, hv, hrow⟩ := row_again f n _ (hb.drop at') hf0 h0
    injection h with ha hb'
    injection ha with ha1 ha2
    injection hb' with hc _
    rw [hk] at hc
    simp at hc k2
    subst hc ha1
    refine ⟨hv, ha2.symm, by omega, by omega, ?_⟩
    rw [hrow]
    congr 1
    omega
  · rw [if_neg h0] at h
    injection h with _ hb'
    injection hb' with _ hc
    exact absurd hc h0

theorem takeZ_fix {n : Int} {bs : List Int} {at' a2 : Nat} {v : Int} {t : List Int} (_hb : Oct bs) (h : takeZ 0 n bs at' 0 = ((v, t), a2, 0)) :
    0 ≤ n ∧ n ≤ 8 ∧ t = [] ∧ a2 = at' + n.toNat ∧ n.toNat ≤ (bs.drop at').length ∧ v = leZ ((bs.drop at').take n.toNat) := by
  unfold takeZ at h
  rw [if_pos rfl] at h
  unfold leadZ fixZ at h
  rw [if_pos rfl] at h
  by_cases h1 : n < 0 ∨ 8 < n
  · rw [if_pos h1] at h; simp at h
  · rw [if_neg h1] at h
    by_cases h2 : ((bs.drop at').length : Int) < n
    · rw [if_pos h2] at h; simp at h
    · rw [if_neg h2] at h
      simp only [if_true] at h
      rw [if_neg (by omega)] at h
      injection h with ha hb'
      injection ha with ha1 ha2
      injection hb' with hc _
      exact ⟨by omega, by omega, ha2.symm, hc.symm, by omega, ha1.symm⟩

end Go.Proofs.Ytamajeagmkjjbaa
