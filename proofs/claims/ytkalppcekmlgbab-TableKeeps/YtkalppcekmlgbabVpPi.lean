import Derived.Test.YtkalppcekmlgbabVpPh
namespace Go.Proofs.Ytkalppcekmlgbab.Vp
open Go.RowKit

/-- A zero value of the table's type. -/
abbrev zv : Value := .pointer none
def getV (key : ByteArray) (l : List En) : Value := match ent key l with | some e => .tuple #[e.2.2, .bool true] | none => .tuple #[zv, .bool false]

set_option maxRecDepth 100000 in
set_option maxHeartbeats 2000000 in
theorem get_any (o : Option Addr) (key : ByteArray) (t : Tr) (w : World) (ht : TO w o t) :
    Calls Try.prog 14 #[.pointer o, .string key] w fun x w' => x = .returned (getV key t.toL) ∧ Below w.heap.size w w' := by
  have G := hid (at_any o key t w ht)
  have HM := hid (fun (e : En) (he : e ∈ t.toL) => ht.at_.mem e.1 e.2.1 e.2.2 he)
  clear ht
  cases hq : ent key t.toL with
  | none =>
    have G2 := hid (hq ▸ G.out)
    have HE2 := hid hq
    clear G hq
    go_enter Try.func14, Try.ntmps14
    go_wp2_with (
      go_at_call 33
      refine G2.out.mono ?_
      rintro e w1 ⟨e1, hb⟩
      have e2 : e = .returned (.pointer none) := e1
      subst e2
      have HB := hid hb
      clear hb e1)
    go_ret2
    exact ⟨by rw [getV, HE2.out]; rfl, below_on HB.out (below_new _ _)⟩
  | some c =>
    obtain ⟨b, k, v⟩ := c
    have G2 := hid (hq ▸ G.out)
    obtain ⟨p', q', h', nd⟩ := HM.out (b, k, v) (ent_some hq).1
    have d0 := (cells5 nd).2.1
    have HE2 := hid hq
    have hbl := World.block_lt_of_cell? _ _ d0
    clear G hq HM nd
    go_enter Try.func14, Try.ntmps14
    go_wp2_with (
      go_at_call 33
      refine G2.out.mono ?_
      rintro e w1 ⟨e1, hb⟩
      have e2 : e = .returned (.pointer (some ⟨b, 0, none⟩)) := e1
      subst e2
      have f0 := (hb.cell hbl).trans d0
      have HB := hid hb
      clear hb e1)
    go_ret2
    exact ⟨by rw [getV, HE2.out]; rfl, HB.out⟩

def nextV (above : ByteArray) (l : List En) : Value := match gtrE above l with | some e => .tuple #[.string e.2.1, .bool true] | none => .tuple #[.string ⟨#[]⟩, .bool false]

/-- Keys are no longer than a text can be. -/
def Short (t : Tr) : Prop := ∀ e ∈ t.toL, e.2.1.size ≤ 281474976710656

set_option maxRecDepth 100000 in
set_option maxHeartbeats 800000 in
theorem len_any (o : Option Addr) (t : Tr) (w : World) (ht : TO w o t) :
    Calls Try.prog 16 #[.pointer o] w fun x w' => x = .returned (.int .i64 t.n) ∧ w' = w := by
  rcases ht with ⟨rfl, rfl⟩ | ⟨p, rfl, ht⟩
  · go_enter Try.func16, Try.ntmps16
    go_wp2
    go_ret
    exact ⟨rfl, rfl⟩
  · obtain ⟨c0, c1⟩ := cells2 ht.blk
    clear ht
    go_enter Try.func16, Try.ntmps16
    go_wp2
    go_ret
    exact ⟨rfl, rfl⟩

set_option maxRecDepth 100000 in
set_option maxHeartbeats 800000 in
theorem new_any (w : World) : Calls Try.prog 11 #[] w fun x w' => x = .returned (.pointer (some ⟨w.heap.size, 0, none⟩)) ∧ Tb w' w.heap.size .nil ∧ Below w.heap.size w w' ∧ w'.heap.size = w.heap.size + 1 := by
  go_enter Try.func11, Try.ntmps11
  go_wp2
  go_ret
  exact ⟨rfl, ⟨hp_new w _, trivial, List.Pairwise.nil, List.Pairwise.nil⟩, below_new _ _, by simp⟩

end Go.Proofs.Ytkalppcekmlgbab.Vp
