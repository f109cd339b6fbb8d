import Derived.Test.YtkalppcekmlgbabKn
namespace Go.Proofs.Ytkalppcekmlgbab
open Go.RowKit

/-- A table of Things without a key. -/
abbrev U0 (w : World) (p : Nat) : Prop := w.heap[p]? = some (.cells #[.pointer none, .int .i64 0] 77 (0, 0))
/-- One with one key. -/
structure U1 (w : World) (p b : Nat) (key : ByteArray) (n : Int) (lv : Value) : Prop where
  tb : w.heap[p]? = some (.cells #[.pointer (some ⟨b, 0, none⟩), .int .i64 1] 77 (0, 0))
  nd : w.heap[b]? = some (.cells #[.string key, .int .i64 n, lv, .pointer none, .pointer none, .int .i64 1] 85 (0, 0))
theorem U1.below {w w' : World} {p b : Nat} {key : ByteArray} {n : Int} {lv : Value} (h : U1 w p b key n lv) (hb : Below w.heap.size w w') : U1 w' p b key n lv := ⟨hp_below h.tb hb (hp_lt h.tb), hp_below h.nd hb (hp_lt h.nd)⟩

theorem cells6 {w : World} {p : Nat} {a b c d e f : Value} {t : TypeId} (h : w.heap[p]? = some (.cells #[a, b, c, d, e, f] t (0, 0))) : w.cell? ⟨p, 0, none⟩ = some a ∧ w.cell? ⟨p, 1, none⟩ = some b ∧ w.cell? ⟨p, 2, none⟩ = some c ∧ w.cell? ⟨p, 3, none⟩ = some d ∧ w.cell? ⟨p, 4, none⟩ = some e ∧ w.cell? ⟨p, 5, none⟩ = some f := by
  refine ⟨?_, ?_, ?_, ?_, ?_, ?_⟩ <;> (rw [cell_of_row w p _ _ _ _ h]; rfl)

set_option maxRecDepth 100000 in
set_option maxHeartbeats 800000 in
theorem farT (g : Nat) (k text : ByteArray) (w : World) (h : Bx w g text) : Calls Try.prog 77 #[.string k, .pointer (some ⟨g, 0, none⟩)] w fun x w' => x = .returned (.bool (!kl k text)) ∧ w' = w := by
  have c0 := cells1 h
  clear h
  go_enter Try.func77, Try.ntmps77
  go_wp2
  go_ret
  exact ⟨rfl, rfl⟩

set_option maxRecDepth 100000 in
set_option maxHeartbeats 2000000 in
theorem least0T (p g : Nat) (w : World) (ht : U0 w p) :
    Calls Try.prog 76 #[.pointer (some ⟨p, 0, none⟩), .func (.func 77) #[] #[.pointer (some ⟨g, 0, none⟩)]] w fun x w' => x = .returned (.pointer none) ∧ w' = w := by
  obtain ⟨c0, c1⟩ := cells2 ht
  clear ht c1
  go_enter Try.func76, Try.ntmps76
  go_wp2
  go_loop [5, 6] (fun f i => f = .pointer none ∧ i = .pointer none) (fun _ _ => 0)
  case atStart => exact ⟨rfl, rfl⟩
  case round =>
    obtain ⟨rfl, rfl⟩ := hrel
    go_wp2
    go_ret
    exact ⟨rfl, rfl⟩

def ptN : Value → Nat | .pointer (some _) => 1 | _ => 0

set_option maxRecDepth 100000 in
set_option maxHeartbeats 2000000 in
theorem least1T (p g b : Nat) (key text : ByteArray) (n : Int) (lv : Value) (w : World) (o : Option Addr) (ht : U1 w p b key n lv) (hg : Bx w g text) (ho : o = if kl key text then none else some ⟨b, 0, none⟩) :
    Calls Try.prog 76 #[.pointer (some ⟨p, 0, none⟩), .func (.func 77) #[] #[.pointer (some ⟨g, 0, none⟩)]] w fun x w' => x = .returned (.pointer o) ∧ Below w.heap.size w w' := by
  obtain ⟨c0, c1⟩ := cells2 ht.tb
  have HT := hid (And.intro ht hg)
  have HO := hid ho
  clear ht hg c1 ho
  go_enter Try.func76, Try.ntmps76
  go_wp2
  go_loopw [5, 6] (fun f i wr => Hid (Below w.heap.size w wr) ∧ ((f = .pointer none ∧ i = .pointer (some ⟨b, 0, none⟩)) ∨ (f = .pointer o ∧ i = .pointer none))) (fun _ i _ => ptN i)
  case atStart => exact ⟨hid (Below.refl _ _), .inl ⟨rfl, rfl⟩⟩
  case round =>
    obtain ⟨hb, ⟨rfl, rfl⟩ | ⟨rfl, rfl⟩⟩ := hrel
    · obtain ⟨d0, -, -, d3, d4, -⟩ := cells6 (HT.out.1.below hb.out).nd
      have FF := hid (farT g key text wr (hp_below HT.out.2 hb.out (hp_lt HT.out.2)))
      cases hf : kl key text
      · have F2 := hid (show Calls Try.prog 77 #[.string key, .pointer (some ⟨g, 0, none⟩)] wr fun x w' => x = .returned (.bool true) ∧ w' = wr from by have := FF.out; rw [hf] at this; exact this)
        have HF := hid hf
        clear FF hf
        go_wp2_with (
          go_at_call 77
          refine F2.out.mono ?_
          rintro e w1 ⟨rfl, e1⟩
          rw [e1]
          clear e1 w1)
        go_quiet (fail)
        go_wp2
        go_roundw
        case rel => exact ⟨hid (blw_drewN hb.out), .inr ⟨by rw [HO.out, HF.out]; rfl, rfl⟩⟩
        case measure => simp [ptN]
      · have F2 := hid (show Calls Try.prog 77 #[.string key, .pointer (some ⟨g, 0, none⟩)] wr fun x w' => x = .returned (.bool false) ∧ w' = wr from by have := FF.out; rw [hf] at this; exact this)
        have HF := hid hf
        clear FF hf
        go_wp2_with (
          go_at_call 77
          refine F2.out.mono ?_
          rintro e w1 ⟨rfl, e1⟩
          rw [e1]
          clear e1 w1)
        go_roundw
        case rel => exact ⟨hb, .inr ⟨by rw [HO.out, HF.out]; rfl, rfl⟩⟩
        case measure => simp [ptN]
    · go_wp2
      go_ret
      exact ⟨rfl, hb.out⟩

set_option maxRecDepth 100000 in
set_option maxHeartbeats 800000 in
theorem geqT (p : Nat) (text : ByteArray) (w : World) (o : Option Addr) (h : (U0 w p ∧ o = none) ∨ ∃ b key n lv, U1 w p b key n lv ∧ o = if kl key text then none else some ⟨b, 0, none⟩) :
    Calls Try.prog 53 #[.pointer (some ⟨p, 0, none⟩), .string text] w fun x w' => x = .returned (.pointer o) ∧ Below w.heap.size w w' := by
  obtain ⟨W, hW⟩ : ∃ W, W = w.alloc (.cells #[.string text] 9) := ⟨_, rfl⟩
  have L1 := hid (show Calls Try.prog 76 #[.pointer (some ⟨p, 0, none⟩), .func (.func 77) #[] #[.pointer (some ⟨w.heap.size, 0, none⟩)]] W (fun x w' => x = .returned (.pointer o) ∧ Below w.heap.size w w') from by
    rw [hW]
    have hb := below_new w (.cells #[.string text] 9)
    rcases h with ⟨h, rfl⟩ | ⟨b, key, n, lv, h, rfl⟩
    · refine (least0T p _ _ (hp_below h hb (hp_lt h))).mono ?_
      rintro x w' ⟨rfl, rfl⟩
      exact ⟨rfl, hb⟩
    · refine (least1T p w.heap.size b key text n lv _ _ (h.below hb) (hp_new w _) rfl).mono ?_
      rintro x w' ⟨rfl, h2⟩
      exact ⟨rfl, below_on hb h2⟩)
  have HW := hid hW
  have hmf : ∀ (fn : Fn) (first cap : Array Value) (w : World), (Instr.makeFunc fn first cap).run Try.prog w = .ok (.func fn first cap) w := fun _ _ _ _ => rfl
  clear h hW
  go_enter Try.func53, Try.ntmps53
  go_wp2_with (
    go_at_call 76
    rw [← HW.out]
    refine L1.out.mono ?_
    rintro e w1 ⟨rfl, hb⟩
    have HB := hid hb
    clear hb)
  go_ret
  exact ⟨rfl, HB.out⟩

set_option maxRecDepth 100000 in
set_option maxHeartbeats 2000000 in
theorem atT (p : Nat) (text : ByteArray) (w : World) (o : Option Addr) (h : (U0 w p ∧ o = none) ∨ ∃ b key n lv, U1 w p b key n lv ∧ o = if key = text then some ⟨b, 0, none⟩ else none) :
    Calls Try.prog 36 #[.pointer (some ⟨p, 0, none⟩), .string text] w fun x w' => x = .returned (.pointer o) ∧ Below w.heap.size w w' := by
  rcases h with ⟨h, rfl⟩ | ⟨b, key, n, lv, h, rfl⟩
  · have G := hid (geqT p text w none (.inl ⟨h, rfl⟩))
    clear h
    go_enter Try.func36, Try.ntmps36
    go_wp2_with (
      go_at_call 53
      refine G.out.mono ?_
      rintro e w1 ⟨rfl, hb⟩
      have HB := hid hb
      clear hb)
    go_ret
    exact ⟨rfl, HB.out⟩
  · cases hk : kl key text
    · have G := hid (geqT p text w (some ⟨b, 0, none⟩) (.inr ⟨b, key, n, lv, h, by rw [hk]; rfl⟩))
      have HU := hid h
      by_cases he : key = text
      · rw [if_pos he]
        have b0 : (key.toList == text.toList) = true := by rw [he]; simp
        clear h he hk
        go_enter Try.func36, Try.ntmps36
        go_wp2_with (
          go_at_call 53
          refine G.out.mono ?_
          rintro e w1 ⟨rfl, hb⟩
          have HB := hid hb
          have d0 := (cells6 (HU.out.below hb).nd).1
          clear hb)
        go_ret
        exact ⟨rfl, HB.out⟩
      · rw [if_neg he]
        have b0 := keq_false he
        clear h he hk
        go_enter Try.func36, Try.ntmps36
        go_wp2_with (
          go_at_call 53
          refine G.out.mono ?_
          rintro e w1 ⟨rfl, hb⟩
          have HB := hid hb
          have d0 := (cells6 (HU.out.below hb).nd).1
          clear hb)
        go_ret
        exact ⟨rfl, HB.out⟩
    · have G := hid (geqT p text w none (.inr ⟨b, key, n, lv, h, by rw [hk]; rfl⟩))
      have he : key ≠ text := kl_ne hk
      rw [if_neg he]
      clear h he hk
      go_enter Try.func36, Try.ntmps36
      go_wp2_with (
        go_at_call 53
        refine G.out.mono ?_
        rintro e w1 ⟨rfl, hb⟩
        have HB := hid hb
        clear hb)
      go_ret
      exact ⟨rfl, HB.out⟩

end Go.Proofs.Ytkalppcekmlgbab
