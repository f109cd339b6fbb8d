import Derived.Test.YtkalppcekmlgbabPh
namespace Go.Proofs.Ytkalppcekmlgbab
open Go.RowKit

/-- A zero value of the table's type. -/
abbrev zv : Value := .int .i64 0
def getV (key : ByteArray) (l : List En) : Value := match ent key l with | some e => .tuple #[e.2.2, .bool true] | none => .tuple #[zv, .bool false]

set_option maxRecDepth 100000 in
set_option maxHeartbeats 2000000 in
theorem get_any (o : Option Addr) (key : ByteArray) (t : Tr) (w : World) (ht : TO w o t) :
    Calls Try.prog 22 #[.pointer o, .string key] w fun x w' => x = .returned (getV key t.toL) ∧ Below w.heap.size w w' := by
  have G := hid (at_any o key t w ht)
  have HM := hid (fun (e : En) (he : e ∈ t.toL) => ht.at_.mem e.1 e.2.1 e.2.2 he)
  clear ht
  cases hq : ent key t.toL with
  | none =>
    have G2 := hid (hq ▸ G.out)
    have HE2 := hid hq
    clear G hq
    go_enter Try.func22, Try.ntmps22
    go_wp2_with (
      go_at_call 38
      refine G2.out.mono ?_
      rintro e w1 ⟨e1, hb⟩
      have e2 : e = .returned (.pointer none) := e1
      subst e2
      have HB := hid hb
      clear hb e1)
    go_ret2
    exact ⟨by rw [getV, HE2.out]; rfl, below_on HB.out (below_new _ _)⟩
  | some c =>
    obtain ⟨b, k, v⟩ := c
    have G2 := hid (hq ▸ G.out)
    obtain ⟨p', q', h', nd⟩ := HM.out (b, k, v) (ent_some hq).1
    have d0 := (cells5 nd).2.1
    have HE2 := hid hq
    have hbl := World.block_lt_of_cell? _ _ d0
    clear G hq HM nd
    go_enter Try.func22, Try.ntmps22
    go_wp2_with (
      go_at_call 38
      refine G2.out.mono ?_
      rintro e w1 ⟨e1, hb⟩
      have e2 : e = .returned (.pointer (some ⟨b, 0, none⟩)) := e1
      subst e2
      have f0 := (hb.cell hbl).trans d0
      have HB := hid hb
      clear hb e1)
    go_ret2
    exact ⟨by rw [getV, HE2.out]; rfl, HB.out⟩

def nextV (above : ByteArray) (l : List En) : Value := match gtrE above l with | some e => .tuple #[.string e.2.1, .bool true] | none => .tuple #[.string ⟨#[]⟩, .bool false]

/-- Keys are no longer than a text can be. -/
def Short (t : Tr) : Prop := ∀ e ∈ t.toL, e.2.1.size ≤ 281474976710656

set_option maxRecDepth 100000 in
set_option maxHeartbeats 2000000 in
theorem next_any (o : Option Addr) (above : ByteArray) (t : Tr) (w : World) (ht : TO w o t) (hs : Short t) :
    Calls Try.prog 31 #[.pointer o, .string above] w fun x w' => x = .returned (nextV above t.toL) ∧ Below w.heap.size w w' := by
  have G := hid (gtr_any o above t w ht)
  have HM := hid (fun (e : En) (he : e ∈ t.toL) => ht.at_.mem e.1 e.2.1 e.2.2 he)
  clear ht
  cases hq : gtrE above t.toL with
  | none =>
    have G2 := hid (hq ▸ G.out)
    have HE2 := hid hq
    clear G hq
    go_enter Try.func31, Try.ntmps31
    go_wp2_with (
      go_at_call 48
      refine G2.out.mono ?_
      rintro e w1 ⟨e1, hb⟩
      have e2 : e = .returned (.pointer none) := e1
      subst e2
      have HB := hid hb
      clear hb e1)
    go_ret2
    exact ⟨by rw [nextV, HE2.out]; rfl, HB.out⟩
  | some c =>
    obtain ⟨b, k, v⟩ := c
    have G2 := hid (hq ▸ G.out)
    obtain ⟨p', q', h', nd⟩ := HM.out (b, k, v) (gtr_mem hq)
    have d0 := (cells5 nd).1
    have hk := hs _ (gtr_mem hq)
    have CL := hid (fun W => clone_any k W hk)
    have HE2 := hid hq
    have hbl := World.block_lt_of_cell? _ _ d0
    clear G hq HM nd hs hk
    go_enter Try.func31, Try.ntmps31
    go_wp2_with (first
      | (go_at_call 48
         refine G2.out.mono ?_
         rintro e w1 ⟨e1, hb⟩
         have e2 : e = .returned (.pointer (some ⟨b, 0, none⟩)) := e1
         subst e2
         have f0 := (hb.cell hbl).trans d0
         have HB := hid hb
         clear hb e1)
      | (go_at_call 28
         refine (CL.out _).mono ?_
         rintro e w2 ⟨rfl, hb⟩
         have HB2 := hid hb
         clear hb))
    go_ret2
    exact ⟨by rw [nextV, HE2.out]; rfl, below_on HB.out HB2.out⟩

set_option maxRecDepth 100000 in
set_option maxHeartbeats 800000 in
theorem len_any (o : Option Addr) (t : Tr) (w : World) (ht : TO w o t) :
    Calls Try.prog 32 #[.pointer o] w fun x w' => x = .returned (.int .i64 t.n) ∧ w' = w := by
  rcases ht with ⟨rfl, rfl⟩ | ⟨p, rfl, ht⟩
  · go_enter Try.func32, Try.ntmps32
    go_wp2
    go_ret
    exact ⟨rfl, rfl⟩
  · obtain ⟨c0, c1⟩ := cells2 ht.blk
    clear ht
    go_enter Try.func32, Try.ntmps32
    go_wp2
    go_ret
    exact ⟨rfl, rfl⟩

set_option maxRecDepth 100000 in
set_option maxHeartbeats 800000 in
theorem new_any (w : World) : Calls Try.prog 19 #[] w fun x w' => x = .returned (.pointer (some ⟨w.heap.size, 0, none⟩)) ∧ Tb w' w.heap.size .nil ∧ Below w.heap.size w w' ∧ w'.heap.size = w.heap.size + 1 := by
  go_enter Try.func19, Try.ntmps19
  go_wp2
  go_ret
  exact ⟨rfl, ⟨hp_new w _, trivial, List.Pairwise.nil, List.Pairwise.nil⟩, below_new _ _, by simp⟩

end Go.Proofs.Ytkalppcekmlgbab
