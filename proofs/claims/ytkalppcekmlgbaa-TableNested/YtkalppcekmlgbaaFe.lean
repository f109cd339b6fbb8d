import Derived.Test.YtkalppcekmlgbaaFd
namespace Go.Proofs.Ytkalppcekmlgbaa
open Go.RowKit

/-- Behind some steps: d keys more at the most. -/
structure Sq (B : Nat) (w w' : World) (o : Option Addr) (t : Tr) (b : Nat) (vl : Value) (l : List Pr) (t' : Tr) (vl' : Value) (l' : List Pr) (d : Nat) : Prop where
  st : St B w' o t' b vl' l'
  kp : Kept (ft o t b vl) w w'
  nw : ∀ k, ft o t' b vl' k → ft o t b vl k ∨ w.heap.size ≤ k
  ln : l'.length ≤ l.length + d

theorem Sq.from {B : Nat} {w W w' : World} {o : Option Addr} {t : Tr} {b : Nat} {vl : Value} {l : List Pr} {t' : Tr} {vl' : Value} {l' : List Pr} {d : Nat} (hw : Below w.heap.size w W) (h : Sq B W w' o t b vl l t' vl' l' d) : Sq B w w' o t b vl l t' vl' l' d :=
  ⟨h.st, ((Kept.ofBelow hw).mono (fun _ _ e => e.elim)).trans h.kp (fun _ _ e => e), fun k hk => by
    rcases h.nw k hk with h1 | h1
    · exact .inl h1
    · exact .inr (Nat.le_trans hw.size h1), h.ln⟩
theorem Sq.trans {B : Nat} {w w1 w2 : World} {o : Option Addr} {t : Tr} {b : Nat} {vl : Value} {l : List Pr} {t1 : Tr} {vl1 : Value} {l1 : List Pr} {d : Nat} {t2 : Tr} {vl2 : Value} {l2 : List Pr} {d' : Nat} (h : Sq B w w1 o t b vl l t1 vl1 l1 d) (h' : Sq B w1 w2 o t1 b vl1 l1 t2 vl2 l2 d') : Sq B w w2 o t b vl l t2 vl2 l2 (d + d') := by
  have hs := h.kp.size
  refine ⟨h'.st, h.kp.trans h'.kp (fun j hj e => ?_), fun k hk => ?_, by have := h.ln; have := h'.ln; omega⟩
  · rcases h.nw j e with h1 | h1
    · exact h1
    · omega
  · rcases h'.nw k hk with h1 | h1
    · exact h.nw k h1
    · exact .inr (by omega)
theorem Sq.refl {B : Nat} {w : World} {o : Option Addr} {t : Tr} {b : Nat} {vl : Value} {l : List Pr} (h : St B w o t b vl l) : Sq B w w o t b vl l t vl l 0 := ⟨h, Kept.refl _ _, fun _ hk => .inl hk, Nat.le_refl _⟩
theorem Sq.ofSp {B : Nat} {w w' : World} {o : Option Addr} {t : Tr} {b : Nat} {vl : Value} {l : List Pr} {t' : Tr} {vl' : Value} {l' : List Pr} (h : Sp B w w' o t b vl l t' vl' l') : Sq B w w' o t b vl l t' vl' l' 1 := ⟨h.st, h.kp, h.nw, h.ln⟩
theorem Sq.below {B : Nat} {w w1 w2 : World} {o : Option Addr} {t : Tr} {b : Nat} {vl : Value} {l : List Pr} {t1 : Tr} {vl1 : Value} {l1 : List Pr} {d : Nat} (h : Sq B w w1 o t b vl l t1 vl1 l1 d) (hb : Below w1.heap.size w1 w2) : Sq B w w2 o t b vl l t1 vl1 l1 d :=
  ⟨h.st.below hb, h.kp.trans (Kept.ofBelow hb) (fun _ _ e => e.elim), h.nw, h.ln⟩

def GoP (B : Nat) (w : World) (o : Option Addr) (t : Tr) (b : Nat) (vl : Value) (l : List Pr) (d : Nat) : Ending → World → Prop := fun e w' => e = .returned (.bool true) ∧ ∃ t' vl' l', Sq B w w' o t b vl l t' vl' l' d

theorem fnNil (g1 g2 g3 : Nat) (W : World) : (binOp .eql 36 (.func (.func 27) #[] #[.pointer (some ⟨g1, 0, none⟩), .pointer (some ⟨g2, 0, none⟩), .pointer (some ⟨g3, 0, none⟩)]) .nilFunc).run Try.prog W = .ok (.bool false) W := by kernel_rfl

set_option maxRecDepth 100000 in
set_option maxHeartbeats 4000000 in
theorem goes_any (B : Nat) (o : Option Addr) (t : Tr) (b : Nat) (vl : Value) (l : List Pr) (frm to : ByteArray) (stop : Int) (body : Value) (xs : List Sx) (w : World) (h : St B w o t b vl l) (hB : B ≤ w.heap.size) (hf : frm.size ≤ 281474976710656) (ht : to.size ≤ 281474976710656)
    (hr : Rf w 5 body xs.length (xs.flatMap Sx.cells)) (hbd : xs ≠ [] → ∀ j, body.ownBlock = some j → j < B) (hxs : ∀ x ∈ xs, x.key.size ≤ 281474976710656) (hl : l.length + min xs.length 300 ≤ 90000) :
    Calls Try.prog 14 #[.pointer o, .pointer (some ⟨b, 0, none⟩), .string frm, .string to, .int .i64 stop, body] w (GoP B w o t b vl l (min xs.length 300)) := by
  have R1 := hid (range_any o frm to w hf ht)
  have F1 := hid (show ∀ w1 g1 g2 g3, It w1 g1 g2 g3 o frm to → Below w.heap.size w w1 → Calls Try.prog 13 #[.pointer o, .pointer (some ⟨b, 0, none⟩), itV g1 g2 g3, .string frm, .string to, .int .i64 stop, body] w1 (fun e w' => e = .returned (.bool true) ∧ Hid (∃ t' vl' l', Sq B w w' o t b vl l t' vl' l' (min xs.length 300))) from by
    intro w1 g1 g2 g3 hi hb
    have := hb.size
    refine (follows_any ⟨B, w1.heap.size, b, w1, o, t, vl, l, frm, to, g1, g2, g3, stop, body, xs⟩ ⟨rfl, by simp only; omega, hp_lt hi.t, hp_lt hi.f, hp_lt hi.e, hbd, hxs, hl, h.below hb, hi, hr.below hb⟩).mono ?_
    rintro e w' ⟨rfl, t', vl', l', h1, h2, h3, h4, -⟩
    exact ⟨rfl, hid ⟨t', vl', l', Sq.from hb ⟨h1, h2, h3, h4⟩⟩⟩)
  obtain ⟨aob, capb, hbody, -, -⟩ := hr.shape
  subst hbody
  clear h hB hf ht hr hbd hxs hl
  simp only [itV] at R1 F1
  have hEq := fnNil
  go_enter Try.func14, Try.ntmps14
  go_wp2_with (first
    | (go_at_call 12
       refine R1.out.mono ?_
       rintro e w1 ⟨g1, g2, g3, rfl, hi, hb, -⟩
       have N1 := hid (And.intro hi hb)
       clear hi hb)
    | (go_at_call 13
       refine (F1.out w1 g1 g2 g3 N1.out.1 N1.out.2).mono ?_
       rintro e w2 ⟨rfl, N2⟩))
  go_ret
  exact ⟨rfl, N2.out⟩

set_option maxRecDepth 100000 in
set_option maxHeartbeats 4000000 in
/-- A loop whose body does nothing changes nothing. -/
theorem goes_nil (B : Nat) (o : Option Addr) (t : Tr) (b : Nat) (vl : Value) (l : List Pr) (frm to : ByteArray) (stop : Int) (w : World) (h : St B w o t b vl l) (hB : B ≤ w.heap.size) (hf : frm.size ≤ 281474976710656) (ht : to.size ≤ 281474976710656) (hl : l.length ≤ 90000) :
    Calls Try.prog 14 #[.pointer o, .pointer (some ⟨b, 0, none⟩), .string frm, .string to, .int .i64 stop, .slice none 0 0] w fun e w' => e = .returned (.bool true) ∧ Below w.heap.size w w' := by
  have R1 := hid (range_any o frm to w hf ht)
  have F1 := hid (show ∀ w1 g1 g2 g3, It w1 g1 g2 g3 o frm to → Below w.heap.size w w1 → Calls Try.prog 13 #[.pointer o, .pointer (some ⟨b, 0, none⟩), itV g1 g2 g3, .string frm, .string to, .int .i64 stop, .slice none 0 0] w1 (fun e w' => e = .returned (.bool true) ∧ Hid (Below w.heap.size w w')) from by
    intro w1 g1 g2 g3 hi hb
    have := hb.size
    refine (follows_any ⟨B, w1.heap.size, b, w1, o, t, vl, l, frm, to, g1, g2, g3, stop, .slice none 0 0, []⟩ ⟨rfl, by simp only; omega, hp_lt hi.t, hp_lt hi.f, hp_lt hi.e, fun hc => absurd rfl hc, fun x hx => (by cases hx), (by simp; omega), h.below hb, hi, rf_nil _ _⟩).mono ?_
    rintro e w' ⟨rfl, t', vl', l', h1, h2, h3, h4, h5⟩
    exact ⟨rfl, hid (below_on hb (h5 rfl).2.2.2)⟩)
  clear h hB hf ht hl
  simp only [itV] at R1 F1
  have hEq := fnNil
  go_enter Try.func14, Try.ntmps14
  go_wp2_with (first
    | (go_at_call 12
       refine R1.out.mono ?_
       rintro e w1 ⟨g1, g2, g3, rfl, hi, hb, -⟩
       have N1 := hid (And.intro hi hb)
       clear hi hb)
    | (go_at_call 13
       refine (F1.out w1 g1 g2 g3 N1.out.1 N1.out.2).mono ?_
       rintro e w2 ⟨rfl, N2⟩))
  go_ret
  exact ⟨rfl, N2.out⟩

end Go.Proofs.Ytkalppcekmlgbaa
