import Derived.Test.YtamajeagmkjjbaaB2
import Derived.Test.YtamajeagmkjjbaaRef2
namespace Go.Proofs.Ytamajeagmkjjbaa
open Go.RowKit

/-- Block g begins with these bytes, and may be written. -/
def Brow (w : World) (g : Nat) (xs : List Int) : Prop := ∃ cur : Array Value, w.heap[g]? = some (.cells cur 5 (0, 0)) ∧ cur.toList.take xs.length = B8 xs

theorem Brow.lt {w : World} {g : Nat} {xs : List Int} (h : Brow w g xs) : g < w.heap.size := by
  obtain ⟨cur, h1, _⟩ := h
  exact (Array.getElem?_eq_some_iff.1 h1).1

theorem Brow.free {w : World} {g : Nat} {xs : List Int} (h : Brow w g xs) (o : Nat) : w.frozen? ⟨g, o, none⟩ = false := by
  obtain ⟨cur, h1, _⟩ := h
  exact free_of_block h1

theorem Brow.cell {w : World} {g : Nat} {xs : List Int} (h : Brow w g xs) {j : Nat} {x : Int} (hx : xs[j]? = some x) : w.cell? ⟨g, j, none⟩ = some (.int .u8 x) := by
  obtain ⟨cur, h1, h2⟩ := h
  have hj : j < xs.length := (List.getElem?_eq_some_iff.1 hx).1
  rw [cell_of_row w g j _ 5 (0, 0) h1]
  have : (cur.toList.take xs.length)[j]? = some (.int .u8 x) := by rw [h2]; simp [hx]
  rw [List.getElem?_take_of_lt hj] at this
  simpa using this

theorem Brow.kept {w w' : World} {g : Nat} {xs : List Int} {S : Nat → Prop} (h : Brow w g xs) (hk : Kept S w w') (hn : ¬ S g) : Brow w' g xs := by
  have hl := h.lt
  obtain ⟨cur, h1, h2⟩ := h
  exact ⟨cur, (hk.block g hl hn).trans h1, h2⟩

theorem Brow.below {w w' : World} {g : Nat} {xs : List Int} {B : Nat} (h : Brow w g xs) (hk : Below B w w') (hn : g < B) : Brow w' g xs := by
  obtain ⟨cur, h1, h2⟩ := h
  exact ⟨cur, (hk.block g hn).trans h1, h2⟩

theorem Brow.set {w : World} {g : Nat} {xs : List Int} (h : Brow w g xs) (j : Nat) (y : Int) : Brow (w.setCell ⟨g, j, none⟩ (.int .u8 y)) g (xs.set j y) := by
  obtain ⟨cur, h1, h2⟩ := h
  refine ⟨cur.setIfInBounds j (.int .u8 y), ?_, ?_⟩
  · simp [World.setCell, Array.getElem?_modify, h1]
  · rw [List.length_set, Array.toList_setIfInBounds, List.take_set, h2, B8, B8, List.map_set]

theorem Brow.sl {w : World} {g : Nat} {xs : List Int} (h : Brow w g xs) (c : Nat) (hc : xs.length ≤ c) : Sl w (.slice (some ⟨g, 0, none⟩) xs.length c) xs :=
  ⟨_, c, rfl, hc, fun _ => ⟨g, 0, rfl, fun j x hx => by rw [Nat.zero_add]; exact h.cell hx⟩⟩

/-- An owned row that has bytes: its block. -/
theorem brow_of_owns {w : World} {B n c : Nat} {ao : Option Addr} {xs : List Int} (h : w.ownsRow B 5 1 (.slice ao n c) n (B8 xs)) (h0 : 0 < n) :
    ∃ g, ao = some ⟨g, 0, none⟩ ∧ B ≤ g ∧ Brow w g xs ∧ n ≤ c ∧ n = xs.length := by
  have hl : xs.length = n := by have := h.1; simp at this; omega
  rcases h.2 with ⟨h1, h2⟩ | ⟨g, cap, cur, h1, hb, hg, hc, _, _, ht⟩
  · omega
  · injection h1 with e1 e2 e3
    subst e1 e3
    exact ⟨g, rfl, hb, ⟨cur, hg, by rw [hl]; simpa using ht⟩, hc, hl.symm⟩

theorem Own.brow {w : World} {g : Nat} {xs : List Int} (h : Own w g xs) : Brow w g xs := ⟨_, h, List.take_of_length_le (by simp [B8])⟩

end Go.Proofs.Ytamajeagmkjjbaa
