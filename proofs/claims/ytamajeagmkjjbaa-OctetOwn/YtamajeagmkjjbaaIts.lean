import Derived.Test.YtamajeagmkjjbaaSl
import Derived.ProofKit
import Derived.OpenShut
import Derived.Deep.Slices
namespace Go.Proofs.Ytamajeagmkjjbaa
open Go.RowKit

/-- An Item. -/
structure It where
  kind : Int
  n : Int
  u : Int
  i : Int
  s : ByteArray

/-- Its fields fit their kinds. -/
def It.ok (x : It) : Prop := (-9223372036854775808 ≤ x.kind ∧ x.kind < 9223372036854775808) ∧ (-9223372036854775808 ≤ x.n ∧ x.n < 9223372036854775808) ∧ (0 ≤ x.u ∧ x.u < 18446744073709551616) ∧ (-9223372036854775808 ≤ x.i ∧ x.i < 9223372036854775808) ∧ x.s.size ≤ 9223372036854775807

/-- The Item's cells lie from there on. -/
def It.at (w : World) (b o : Nat) (x : It) : Prop :=
  w.cell? ⟨b, o, none⟩ = some (.int .i64 x.kind) ∧ w.cell? ⟨b, o + 1, none⟩ = some (.int .i64 x.n) ∧ w.cell? ⟨b, o + 2, none⟩ = some (.int .u64 x.u) ∧ w.cell? ⟨b, o + 3, none⟩ = some (.int .i64 x.i) ∧ w.cell? ⟨b, o + 4, none⟩ = some (.string x.s)

/-- v is a slice of these Items. -/
def Its (w : World) (v : Value) (its : List It) : Prop :=
  ∃ ao cap, v = .slice ao its.length cap ∧ its.length ≤ cap ∧ cap ≤ 9223372036854775807 ∧ (∀ x ∈ its, x.ok) ∧ (its ≠ [] → ∃ b off, ao = some ⟨b, off, none⟩ ∧ ∀ j x, its[j]? = some x → It.at w b (off + j * 5) x)

theorem Try.cells35 : Try.prog.cellsOf 35 = 5 := by kernel_rfl
theorem Try.cells3 : Try.prog.cellsOf 3 = 1 := by kernel_rfl
theorem Try.cells33 : Try.prog.cellsOf 33 = 1 := by kernel_rfl
theorem Try.cells2 : Try.prog.cellsOf 2 = 1 := by kernel_rfl
theorem Try.cells9 : Try.prog.cellsOf 9 = 1 := by kernel_rfl
theorem Try.cells5 : Try.prog.cellsOf 5 = 1 := by kernel_rfl

set_option maxRecDepth 100000 in
theorem it_of_trod {H : Type} {enc : TypeId × Value → H} {W : World} {base : Nat} {spare : Nat → Bool} {held : Bool} {fuel : Nat} {cs : List Value} {x : DataW H × List MemPlace}
    (h : DataW.trod enc Try.prog W base spare held fuel 35 cs = some x) : ∃ y : It, y.ok ∧ cs = [.int .i64 y.kind, .int .i64 y.n, .int .u64 y.u, .int .i64 y.i, .string y.s] := by
  obtain ⟨xs, n, _, rfl, hl, hlen, hf⟩ := DataW.trod_struct Try.underlying35 h
  rw [Try.cells35] at hl
  match cs, hl, xs, hlen with
  | [c0, c1, c2, c3, c4], _, [y0, y1, y2, y3, y4], _ =>
    have f0 : DataW.trod enc Try.prog W base spare held n 3 (([c0, c1, c2, c3, c4].drop 0).take (Try.prog.cellsOf 3)) = some y0 := hf 0 _ rfl
    have f1 : DataW.trod enc Try.prog W base spare held n 3 (([c0, c1, c2, c3, c4].drop 1).take (Try.prog.cellsOf 3)) = some y1 := hf 1 _ rfl
    have f2 : DataW.trod enc Try.prog W base spare held n 33 (([c0, c1, c2, c3, c4].drop 2).take (Try.prog.cellsOf 33)) = some y2 := hf 2 _ rfl
    have f3 : DataW.trod enc Try.prog W base spare held n 2 (([c0, c1, c2, c3, c4].drop 3).take (Try.prog.cellsOf 2)) = some y3 := hf 3 _ rfl
    have f4 : DataW.trod enc Try.prog W base spare held n 9 (([c0, c1, c2, c3, c4].drop 4).take (Try.prog.cellsOf 9)) = some y4 := hf 4 _ rfl
    rw [Try.cells3] at f0 f1
    rw [Try.cells33] at f2
    rw [Try.cells2] at f3
    rw [Try.cells9] at f4
    obtain ⟨a0, e0, _, w0⟩ := DataW.trod_int Try.underlying3 (x := y0) (by simpa using f0)
    obtain ⟨a1, e1, _, w1⟩ := DataW.trod_int Try.underlying3 (x := y1) (by simpa using f1)
    obtain ⟨a2, e2, _, w2⟩ := DataW.trod_int Try.underlying33 (x := y2) (by simpa using f2)
    obtain ⟨a3, e3, _, w3⟩ := DataW.trod_int Try.underlying2 (x := y3) (by simpa using f3)
    obtain ⟨s, e4, _, w4⟩ := DataW.trod_string Try.underlying9 (x := y4) (by simpa using f4)
    simp at e0 e1 e2 e3 e4
    subst e0 e1 e2 e3 e4
    have b0 := bounds_i64 w0
    have b1 := bounds_i64 w1
    have b2 := bounds_u64 w2
    have b3 := bounds_i64 w3
    refine ⟨⟨a0, a1, a2, a3, s⟩, ⟨⟨b0.1, by dsimp only; omega⟩, ⟨b1.1, by dsimp only; omega⟩, ⟨b2.1, by dsimp only; omega⟩, ⟨b3.1, by dsimp only; omega⟩, ?_⟩, rfl⟩
    have := w4; unfold maxLen at this; exact this

theorem its_of_trod {H : Type} {enc : TypeId × Value → H} {W : World} {base : Nat} {held : Bool} {ao : Option Addr} {len cap : Nat} {d : DataW H} {p : List MemPlace}
    (h : DataW.Trod enc Try.prog W base (fun _ => true) held 22 (.slice ao len cap) d p) : ∃ its, Its W (.slice ao len cap) its := by
  obtain ⟨fuel, hf⟩ := h
  rcases Go.Deep.open_slice Try.underlying22 hf with ⟨hcs, _⟩ | ⟨a, len', cap', m, n, D, Pl, hcs, _, hl, hm, hmm, _, hx⟩
  · simp [Value.cells] at hcs
    obtain ⟨rfl, rfl, rfl⟩ := hcs
    exact ⟨[], none, 0, rfl, Nat.le_refl _, by omega, ⟨(fun x hx => nomatch hx), (fun h => absurd rfl h)⟩⟩
  · simp [Value.cells] at hcs
    obtain ⟨rfl, rfl, rfl⟩ := hcs
    simp only [if_true] at hmm
    obtain rfl : cap = m := hmm.symm
    rw [Try.cells35] at hx
    have key : ∀ i, i < len → ∃ y : It, y.ok ∧ ∀ c, c < 5 → W.cell? ((a.add (i * 5)).add c) = ([Value.int .i64 y.kind, .int .i64 y.n, .int .u64 y.u, .int .i64 y.i, .string y.s] : List Value)[c]? := by
      intro i hi
      obtain ⟨cs, h1, h2⟩ := hx i (by omega)
      obtain ⟨y, ho, rfl⟩ := it_of_trod h2
      exact ⟨y, ho, fun c hc => (World.cells?_some h1).2.2 c hc⟩
    have : Inhabited It := ⟨⟨0, 0, 0, 0, ByteArray.empty⟩⟩
    obtain ⟨F, hF⟩ := Go.Deep.choose_lt key
    refine ⟨(List.range len).map F, some a, cap, by simp, by simpa using hl, by unfold maxLen at hm; exact hm, ?_, ?_⟩
    · intro x hx2
      simp at hx2
      obtain ⟨i, hi, rfl⟩ := hx2
      exact (hF i hi).1
    · intro hne
      have hlen : 0 < len := by
        rcases Nat.eq_zero_or_pos len with h | h
        · subst h; simp at hne
        · exact h
      have h00 := (hF 0 hlen).2 0 (by omega)
      obtain ⟨b, off, rfl⟩ : ∃ b off, a = ⟨b, off, none⟩ := by
        obtain ⟨b, off, spot⟩ := a
        have hspot : spot = none := by simpa [Addr.add] using World.cell?_spot h00
        subst hspot
        exact ⟨b, off, rfl⟩
      refine ⟨b, off, rfl, ?_⟩
      intro j x hj
      rw [List.getElem?_map, Option.map_eq_some_iff] at hj
      obtain ⟨i, hi, rfl⟩ := hj
      have hij : i = j ∧ j < len := by
        rw [List.getElem?_eq_some_iff] at hi
        obtain ⟨q1, q2⟩ := hi
        simp at q1 q2
        exact ⟨q2.symm, q1⟩
      obtain ⟨rfl, hi2⟩ := hij
      have k := (hF i hi2).2
      have k0 := k 0 (by omega)
      have k1 := k 1 (by omega)
      have k2 := k 2 (by omega)
      have k3 := k 3 (by omega)
      have k4 := k 4 (by omega)
      simp only [add_lit] at k0 k1 k2 k3 k4
      exact ⟨by simpa using k0, by simpa using k1, by simpa using k2, by simpa using k3, by simpa using k4⟩

end Go.Proofs.Ytamajeagmkjjbaa
