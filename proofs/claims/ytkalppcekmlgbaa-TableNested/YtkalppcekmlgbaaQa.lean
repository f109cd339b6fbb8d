import Derived.Test.YtkalppcekmlgbaaRf
import Derived.Test.YtkalppcekmlgbaaKn
namespace Go.Proofs.Ytkalppcekmlgbaa
open Go.RowKit

abbrev Pr := ByteArray × Int
/-- A pair's cells. -/
def pc (e : Pr) : List Value := [.string e.1, .int .i64 e.2]
theorem pc_len (e : Pr) : (pc e).length = 2 := rfl
theorem pc_one (e : Pr) : ∀ u ∈ pc e, u.oneCell' = true := by intro u hu; simp [pc] at hu; rcases hu with rfl | rfl <;> rfl

/-- The document's table in the heap. -/
structure Bk (B : Nat) (w : World) (b : Nat) (vl : Value) (l : List Pr) : Prop where
  blk : w.heap[b]? = some (.cells #[vl] 32 (0, 0))
  own : w.ownsRow B 64 2 vl l.length (l.flatMap pc)

theorem Bk.cells {B : Nat} {w : World} {b g cap : Nat} {l : List Pr} (h : Bk B w b (.slice (some ⟨g, 0, none⟩) l.length cap) l) (k : Nat) (hk : k < l.length) :
    w.cell? ⟨g, k * 2, none⟩ = some (.string l[k].1) ∧ w.cell? ⟨g, k * 2 + 1, none⟩ = some (.int .i64 l[k].2) := by
  have h0 := flat_get pc 2 pc_len l k 0 (by omega)
  have h1 := flat_get pc 2 pc_len l k 1 (by omega)
  rw [List.getElem?_eq_getElem hk] at h0 h1
  have q0 := h.own.cells (g := g) rfl (k * 2) (.string l[k].1) (by rw [Nat.add_zero] at h0; rw [h0]; rfl)
  have q1 := h.own.cells (g := g) rfl (k * 2 + 1) (.int .i64 l[k].2) (by rw [h1]; rfl)
  rw [add_lit, Nat.zero_add] at q0 q1
  exact ⟨q0, q1⟩

theorem Bk.shape {B : Nat} {w : World} {b : Nat} {vl : Value} {l : List Pr} (h : Bk B w b vl l) : (vl = .slice none 0 0 ∧ l = []) ∨ ∃ g cap, vl = .slice (some ⟨g, 0, none⟩) l.length cap ∧ l.length ≤ cap ∧ B ≤ g := by
  rcases h.own.2 with ⟨e1, e2⟩ | ⟨g, cap, cur, e1, hb, hg, hc, _⟩
  · exact .inl ⟨e1, List.eq_nil_of_length_eq_zero e2⟩
  · exact .inr ⟨g, cap, e1, hc, hb⟩

/-- Where a key stands, or would. -/
def plc (key : ByteArray) (l : List Pr) : Nat := (l.takeWhile (fun e => kl e.1 key)).length

theorem plc_le (key : ByteArray) (l : List Pr) : plc key l ≤ l.length := List.Sublist.length_le (List.takeWhile_sublist _)

theorem tw_len {α : Type} {p : α → Bool} : ∀ {l : List α} {k : Nat}, (∀ i (h : i < l.length), i < k → p l[i] = true) → (∀ h : k < l.length, p l[k] = false) → k ≤ l.length → (l.takeWhile p).length = k
  | [], k, _, _, hk => by simp at hk; simp [hk]
  | a :: l, 0, _, h2, _ => by
    have := h2 (by simp)
    simp at this
    simp [List.takeWhile, this]
  | a :: l, k + 1, h1, h2, hk => by
    have ha := h1 0 (by simp) (by omega)
    simp at ha
    simp only [List.takeWhile, ha, List.length_cons]
    have := tw_len (l := l) (k := k) (p := p) (fun i h hi => by have := h1 (i + 1) (by simpa using h) (by omega); simpa using this) (fun h => by have := h2 (by simpa using h); simpa using this) (by simp at hk; exact hk)
    omega

set_option maxRecDepth 100000 in
set_option maxHeartbeats 2000000 in
theorem place_any (B b : Nat) (vl : Value) (l : List Pr) (key : ByteArray) (w : World) (h : Bk B w b vl l) (hl : l.length ≤ 1000000) :
    Calls Try.prog 30 #[.pointer (some ⟨b, 0, none⟩), .string key] w fun x w' => x = .returned (.int .i64 (plc key l)) ∧ w' = w := by
  have c0 := cells1 h.blk
  rcases h.shape with ⟨rfl, rfl⟩ | ⟨g, cap, rfl, hc, _⟩
  · clear h
    go_enter Try.func30, Try.ntmps30
    go_wp2
    go_loop [5] (fun i => i = .int .i64 0) (fun _ => 0)
    case atStart => rfl
    case round =>
      subst hrel
      go_wp2
      go_ret
      exact ⟨rfl, rfl⟩
  · have hcc := fun k hk => (h.cells k hk).1
    have HC := hid hcc
    clear h hcc
    go_enter Try.func30, Try.ntmps30
    go_wp2
    go_loop [5] (fun i => ∃ k : Nat, k ≤ l.length ∧ i = .int .i64 k ∧ Hid (∀ j (h : j < l.length), j < k → kl l[j].1 key = true)) (fun i => l.length - (intOf i).toNat)
    case atStart => exact ⟨0, Nat.zero_le _, rfl, hid (fun _ _ h => by omega)⟩
    case round =>
      obtain ⟨k, hk, rfl, hall⟩ := hrel
      by_cases hlt : k < l.length
      · have d0 := HC.out k hlt
        cases hq : kl l[k].1 key
        · have hq' : Op.bytesLess l[k].1.toList key.toList = false := hq
          have HR := hid (show plc key l = k from tw_len hall.out (fun _ => hq) hk)
          clear hq
          go_wp2
          go_ret
          exact ⟨by rw [HR.out]; rfl, rfl⟩
        · have hq' : Op.bytesLess l[k].1.toList key.toList = true := hq
          have HN := hid (show ∀ j (h : j < l.length), j < k + 1 → kl l[j].1 key = true from fun j h hj => by
            rcases Nat.lt_or_ge j k with h1 | h1
            · exact hall.out j h h1
            · have : j = k := by omega
              subst this
              exact hq)
          clear hq
          go_wp2
          go_round
          case rel => exact ⟨k + 1, by omega, by go_num, HN⟩
          case measure => simp [intOf]; omega
      · have HR := hid (show plc key l = k from tw_len hall.out (fun h => absurd h hlt) hk)
        go_wp2
        go_ret
        exact ⟨by rw [HR.out]; rfl, rfl⟩

/-- get, next, least, as values. -/
def bgetV (key : ByteArray) (l : List Pr) : Value := match l[plc key l]? with | some e => if e.1 = key then .tuple #[.int .i64 e.2, .bool true] else .tuple #[.int .i64 0, .bool false] | none => .tuple #[.int .i64 0, .bool false]
def bleastV (key : ByteArray) (l : List Pr) : Value := match l[plc key l]? with | some e => .tuple #[.string e.1, .bool true] | none => .tuple #[.string ⟨#[]⟩, .bool false]
/-- Where the next one stands. -/
def nxt (key : ByteArray) (l : List Pr) : Nat := match l[plc key l]? with | some e => if e.1 = key then plc key l + 1 else plc key l | none => plc key l
def bnextV (key : ByteArray) (l : List Pr) : Value := match l[nxt key l]? with | some e => .tuple #[.string e.1, .bool true] | none => .tuple #[.string ⟨#[]⟩, .bool false]

theorem len0 {l : List Pr} {k : Nat} (h : ¬ k < l.length) : l[k]? = none := List.getElem?_eq_none (by omega)

set_option maxRecDepth 100000 in
set_option maxHeartbeats 2000000 in
theorem bget_any (B b : Nat) (vl : Value) (l : List Pr) (key : ByteArray) (w : World) (h : Bk B w b vl l) (hl : l.length ≤ 1000000) :
    Calls Try.prog 18 #[.pointer (some ⟨b, 0, none⟩), .string key] w fun x w' => x = .returned (bgetV key l) ∧ w' = w := by
  have P := hid (place_any B b vl l key w h hl)
  have c0 := cells1 h.blk
  have hpl := plc_le key l
  have hV := hid (show bgetV key l = bgetV key l from rfl)
  obtain ⟨i, hi⟩ : ∃ i, plc key l = i := ⟨_, rfl⟩
  rw [hi] at P hpl
  by_cases hlt : i < l.length
  · rcases h.shape with ⟨rfl, rfl⟩ | ⟨g, cap, rfl, hc, _⟩
    · simp at hlt
    · obtain ⟨d0, d1⟩ := h.cells i hlt
      by_cases hk : l[i].1 = key
      · have HR := hid (show bgetV key l = .tuple #[.int .i64 l[i].2, .bool true] by rw [bgetV, hi, List.getElem?_eq_getElem hlt]; simp [hk])
        have hk' : (l[i].1.toList == key.toList) = true := keq_iff.2 hk
        clear h hi hk
        go_enter Try.func18, Try.ntmps18
        go_wp2_with (go_at_call 30; refine P.out.mono ?_; rintro e w1 ⟨rfl, e1⟩; rw [e1]; clear e1 w1)
        go_ret2
        exact ⟨by rw [HR.out]; rfl, rfl⟩
      · have HR := hid (show bgetV key l = .tuple #[.int .i64 0, .bool false] by rw [bgetV, hi, List.getElem?_eq_getElem hlt]; simp [hk])
        have hk' : (l[i].1.toList == key.toList) = false := keq_false hk
        clear h hi hk
        go_enter Try.func18, Try.ntmps18
        go_wp2_with (go_at_call 30; refine P.out.mono ?_; rintro e w1 ⟨rfl, e1⟩; rw [e1]; clear e1 w1)
        go_ret2
        exact ⟨by rw [HR.out]; rfl, rfl⟩
  · have HR := hid (show bgetV key l = .tuple #[.int .i64 0, .bool false] by rw [bgetV, hi, len0 hlt])
    obtain ⟨ao, cap, rfl⟩ := own_shape h.own
    clear h hi
    go_enter Try.func18, Try.ntmps18
    go_wp2_with (go_at_call 30; refine P.out.mono ?_; rintro e w1 ⟨rfl, e1⟩; rw [e1]; clear e1 w1)
    go_ret2
    exact ⟨by rw [HR.out]; rfl, rfl⟩

set_option maxRecDepth 100000 in
set_option maxHeartbeats 2000000 in
theorem bleast_any (B b : Nat) (vl : Value) (l : List Pr) (key : ByteArray) (w : World) (h : Bk B w b vl l) (hl : l.length ≤ 1000000) :
    Calls Try.prog 16 #[.pointer (some ⟨b, 0, none⟩), .string key] w fun x w' => x = .returned (bleastV key l) ∧ w' = w := by
  have P := hid (place_any B b vl l key w h hl)
  have c0 := cells1 h.blk
  have hpl := plc_le key l
  obtain ⟨i, hi⟩ : ∃ i, plc key l = i := ⟨_, rfl⟩
  rw [hi] at P hpl
  by_cases hlt : i < l.length
  · rcases h.shape with ⟨rfl, rfl⟩ | ⟨g, cap, rfl, hc, _⟩
    · simp at hlt
    · obtain ⟨d0, d1⟩ := h.cells i hlt
      have HR := hid (show bleastV key l = .tuple #[.string l[i].1, .bool true] by rw [bleastV, hi, List.getElem?_eq_getElem hlt])
      clear h hi
      go_enter Try.func16, Try.ntmps16
      go_wp2_with (go_at_call 30; refine P.out.mono ?_; rintro e w1 ⟨rfl, e1⟩; rw [e1]; clear e1 w1)
      go_ret2
      exact ⟨by rw [HR.out]; rfl, rfl⟩
  · have HR := hid (show bleastV key l = .tuple #[.string ⟨#[]⟩, .bool false] by rw [bleastV, hi, len0 hlt])
    obtain ⟨ao, cap, rfl⟩ := own_shape h.own
    clear h hi
    go_enter Try.func16, Try.ntmps16
    go_wp2_with (go_at_call 30; refine P.out.mono ?_; rintro e w1 ⟨rfl, e1⟩; rw [e1]; clear e1 w1)
    go_ret2
    exact ⟨by rw [HR.out]; rfl, rfl⟩

set_option maxRecDepth 100000 in
set_option maxHeartbeats 2000000 in
theorem bnext_any (B b : Nat) (vl : Value) (l : List Pr) (key : ByteArray) (w : World) (h : Bk B w b vl l) (hl : l.length ≤ 1000000) :
    Calls Try.prog 17 #[.pointer (some ⟨b, 0, none⟩), .string key] w fun x w' => x = .returned (bnextV key l) ∧ w' = w := by
  have P := hid (place_any B b vl l key w h hl)
  have c0 := cells1 h.blk
  have hpl := plc_le key l
  obtain ⟨i, hi⟩ : ∃ i, plc key l = i := ⟨_, rfl⟩
  rw [hi] at P hpl
  by_cases hlt : i < l.length
  · rcases h.shape with ⟨rfl, rfl⟩ | ⟨g, cap, rfl, hc, _⟩
    · simp at hlt
    · obtain ⟨d0, d1⟩ := h.cells i hlt
      by_cases hk : l[i].1 = key
      · have hn : nxt key l = i + 1 := by rw [nxt, hi, List.getElem?_eq_getElem hlt]; simp [hk]
        have hk' : (l[i].1.toList == key.toList) = true := keq_iff.2 hk
        by_cases hlt2 : i + 1 < l.length
        · have HR := hid (show bnextV key l = .tuple #[.string l[i + 1].1, .bool true] by rw [bnextV, hn, List.getElem?_eq_getElem hlt2])
          have e0 := (h.cells (i + 1) hlt2).1
          clear h hi hk hn
          go_enter Try.func17, Try.ntmps17
          go_wp2_with (go_at_call 30; refine P.out.mono ?_; rintro e w1 ⟨rfl, e1⟩; rw [e1]; clear e1 w1)
          go_ret2
          exact ⟨by rw [HR.out]; rfl, rfl⟩
        · have HR := hid (show bnextV key l = .tuple #[.string ⟨#[]⟩, .bool false] by rw [bnextV, hn, len0 hlt2])
          clear h hi hk hn
          go_enter Try.func17, Try.ntmps17
          go_wp2_with (go_at_call 30; refine P.out.mono ?_; rintro e w1 ⟨rfl, e1⟩; rw [e1]; clear e1 w1)
          go_ret2
          exact ⟨by rw [HR.out]; rfl, rfl⟩
      · have hn : nxt key l = i := by rw [nxt, hi, List.getElem?_eq_getElem hlt]; simp [hk]
        have hk' : (l[i].1.toList == key.toList) = false := keq_false hk
        have HR := hid (show bnextV key l = .tuple #[.string l[i].1, .bool true] by rw [bnextV, hn, List.getElem?_eq_getElem hlt])
        clear h hi hk hn
        go_enter Try.func17, Try.ntmps17
        go_wp2_with (go_at_call 30; refine P.out.mono ?_; rintro e w1 ⟨rfl, e1⟩; rw [e1]; clear e1 w1)
        go_ret2
        exact ⟨by rw [HR.out]; rfl, rfl⟩
  · have hn : nxt key l = i := by rw [nxt, hi, len0 hlt]
    have HR := hid (show bnextV key l = .tuple #[.string ⟨#[]⟩, .bool false] by rw [bnextV, hn, len0 hlt])
    obtain ⟨ao, cap, rfl⟩ := own_shape h.own
    clear h hi hn
    go_enter Try.func17, Try.ntmps17
    go_wp2_with (go_at_call 30; refine P.out.mono ?_; rintro e w1 ⟨rfl, e1⟩; rw [e1]; clear e1 w1)
    go_ret2
    exact ⟨by rw [HR.out]; rfl, rfl⟩

end Go.Proofs.Ytkalppcekmlgbaa
