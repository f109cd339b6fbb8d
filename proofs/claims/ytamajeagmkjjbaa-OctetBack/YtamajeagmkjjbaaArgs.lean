import Derived.Test.YtamajeagmkjjbaaIts
import Derived.Test.YtamajeagmkjjbaaRef1
import Derived.Test.YtamajeagmkjjbaaR1
namespace Go.Proofs.Ytamajeagmkjjbaa
open Go.RowKit

/-- An argument of bytes. -/
theorem bytes_of_trod {H : Type} {enc : TypeId × Value → H} {W : World} {base : Nat} {held : Bool} {ao : Option Addr} {len cap : Nat} {d : DataW H} {p : List MemPlace}
    (h : DataW.Trod enc Try.prog W base (fun _ => true) held 26 (.slice ao len cap) d p) : ∃ bs, Sn W (.slice ao len cap) bs ∧ Oct bs ∧ bs.length ≤ 9223372036854775807 := by
  obtain ⟨fuel, hf⟩ := h
  rcases Go.Deep.open_slice Try.underlying26 hf with ⟨hcs, _⟩ | ⟨a, len', cap', m, n, D, Pl, hcs, _, hl, hm, hmm, _, hx⟩
  · simp [Value.cells] at hcs
    obtain ⟨rfl, rfl, rfl⟩ := hcs
    exact ⟨[], sn_nil _, (fun x hx => nomatch hx), by simp⟩
  · simp [Value.cells] at hcs
    obtain ⟨rfl, rfl, rfl⟩ := hcs
    simp only [if_true] at hmm
    obtain rfl : cap = m := hmm.symm
    rw [Try.cells5] at hx
    have key : ∀ i, i < len → ∃ y : Int, (0 ≤ y ∧ y < 256) ∧ W.cell? ((a.add (i * 1)).add 0) = some (.int .u8 y) := by
      intro i hi
      obtain ⟨cs, h1, h2⟩ := hx i (by omega)
      obtain ⟨y, e0, _, w0⟩ := DataW.trod_int Try.underlying5 h2
      subst e0
      have b0 := bounds_u8 w0
      exact ⟨y, ⟨b0.1, by omega⟩, (World.cells?_some h1).2.2 0 (by omega)⟩
    obtain ⟨F, hF⟩ := Go.Deep.choose_lt key
    unfold maxLen at hm
    refine ⟨(List.range len).map F, ⟨⟨some a, cap, by simp, by simpa using hl, ?_⟩, .inr ⟨_, _, _, rfl⟩⟩, ?_, by simp; omega⟩
    · intro hne
      have hlen : 0 < len := by
        rcases Nat.eq_zero_or_pos len with h | h
        · subst h; simp at hne
        · exact h
      have h00 := (hF 0 hlen).2
      obtain ⟨b, off, rfl⟩ : ∃ b off, a = ⟨b, off, none⟩ := by
        obtain ⟨b, off, spot⟩ := a
        have hspot : spot = none := by simpa [Addr.add] using World.cell?_spot h00
        subst hspot
        exact ⟨b, off, rfl⟩
      refine ⟨b, off, rfl, ?_⟩
      intro j x hj
      rw [List.getElem?_map, Option.map_eq_some_iff] at hj
      obtain ⟨i, hi, rfl⟩ := hj
      have hij : i = j ∧ j < len := by
        rw [List.getElem?_eq_some_iff] at hi
        obtain ⟨q1, q2⟩ := hi
        simp at q1 q2
        exact ⟨q2.symm, q1⟩
      obtain ⟨rfl, hi2⟩ := hij
      have k := (hF i hi2).2
      rw [add_lit, add_lit] at k
      simpa using k
    · intro x hx2
      simp at hx2
      obtain ⟨i, hi, rfl⟩ := hx2
      exact (hF i hi).1

end Go.Proofs.Ytamajeagmkjjbaa
