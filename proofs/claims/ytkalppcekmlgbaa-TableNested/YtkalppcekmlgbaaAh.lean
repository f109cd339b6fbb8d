import Derived.Test.YtkalppcekmlgbaaAg
namespace Go.Proofs.Ytkalppcekmlgbaa
open Go.RowKit

theorem Try.cells4 : Try.prog.cellsOf 4 = 1 := by kernel_rfl
theorem flat_one {α : Type} (f : α → Value) : ∀ ys : List α, ys.flatMap (fun y => [f y]) = ys.map f
  | [] => rfl
  | y :: ys => by rw [List.flatMap_cons, List.map_cons, flat_one f ys]; rfl

section
variable {H : Type} {enc : TypeId × Value → H} {W : World} {base : Nat} {held : Bool} {fuel : Nat} {cs : List Value} {x : DataW H × List MemPlace}

theorem bool_of_trod (h : DataW.trod enc Try.prog W base (fun _ => true) held fuel 4 cs = some x) : ∃ y : Bool, cs = [.bool y] := by
  obtain ⟨a0, e0, _, w0⟩ := DataW.trod_bool Try.underlying4 h
  exact ⟨a0, e0⟩

instance : Inhabited ByteArray := ⟨⟨#[]⟩⟩
theorem strs_of_trod (h : DataW.trod enc Try.prog W base (fun _ => true) held fuel 55 cs = some x) (hw : ∀ m ∈ x.1.weights Try.prog 55, m ≤ reachBytes) : ∃ (v : Value) (ys : List ByteArray), cs = [v] ∧ Rf W 1 v ys.length (ys.map Value.string) ∧ ∀ y ∈ ys, y.size ≤ 281474976710656 := by
  obtain ⟨v, ys, e, hr, hy⟩ := rf_of_trod_w (fun y : ByteArray => [Value.string y]) (fun y : ByteArray => y.size ≤ 281474976710656) 1 (fun _ => rfl) (fun y u hu => by simp at hu; rw [hu]; rfl) Try.underlying55 Try.cells9 (fun _ _ _ h hw => str_of_trod h hw) hw h
  exact ⟨v, ys, e, by rwa [flat_one] at hr, hy⟩
theorem bools_of_trod (h : DataW.trod enc Try.prog W base (fun _ => true) held fuel 47 cs = some x) (hw : ∀ m ∈ x.1.weights Try.prog 47, m ≤ reachBytes) : ∃ (v : Value) (ys : List Bool), cs = [v] ∧ Rf W 1 v ys.length (ys.map Value.bool) := by
  obtain ⟨v, ys, e, hr, -⟩ := rf_of_trod_w (fun y : Bool => [Value.bool y]) (fun _ : Bool => True) 1 (fun _ => rfl) (fun y u hu => by simp at hu; rw [hu]; rfl) Try.underlying47 Try.cells4 (fun _ _ _ h hw => by obtain ⟨y, e⟩ := bool_of_trod h; exact ⟨y, trivial, e⟩) hw h
  exact ⟨v, ys, e, by rwa [flat_one] at hr⟩
end

end Go.Proofs.Ytkalppcekmlgbaa
