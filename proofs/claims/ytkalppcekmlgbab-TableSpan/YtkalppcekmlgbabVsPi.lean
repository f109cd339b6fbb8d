import Derived.Test.YtkalppcekmlgbabVsPh
namespace Go.Proofs.Ytkalppcekmlgbab.Vs
open Go.RowKit

/-- A zero value of the table's type. -/
abbrev zv : Value := .string ⟨#[]⟩
def getV (key : ByteArray) (l : List En) : Value := match ent key l with | some e => .tuple #[e.2.2, .bool true] | none => .tuple #[zv, .bool false]

def nextV (above : ByteArray) (l : List En) : Value := match gtrE above l with | some e => .tuple #[.string e.2.1, .bool true] | none => .tuple #[.string ⟨#[]⟩, .bool false]

/-- Keys are no longer than a text can be. -/
def Short (t : Tr) : Prop := ∀ e ∈ t.toL, e.2.1.size ≤ 281474976710656

set_option maxRecDepth 100000 in
set_option maxHeartbeats 800000 in
theorem new_any (w : World) : Calls Try.prog 6 #[] w fun x w' => x = .returned (.pointer (some ⟨w.heap.size, 0, none⟩)) ∧ Tb w' w.heap.size .nil ∧ Below w.heap.size w w' ∧ w'.heap.size = w.heap.size + 1 := by
  go_enter Try.func6, Try.ntmps6
  go_wp2
  go_ret
  exact ⟨rfl, ⟨hp_new w _, trivial, List.Pairwise.nil, List.Pairwise.nil⟩, below_new _ _, by simp⟩

end Go.Proofs.Ytkalppcekmlgbab.Vs
