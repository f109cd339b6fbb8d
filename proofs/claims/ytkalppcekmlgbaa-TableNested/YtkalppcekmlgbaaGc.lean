import Derived.Test.YtkalppcekmlgbaaGb
namespace Go.Proofs.Ytkalppcekmlgbaa
open Go.RowKit

/-- follows, in the words of goes. -/
theorem follows_go (B : Nat) (o : Option Addr) (t : Tr) (b : Nat) (vl : Value) (l : List Pr) (frm to : ByteArray) (g1 g2 g3 : Nat) (stop : Int) (body : Value) (xs : List Sx) (w : World) (h : St B w o t b vl l) (hB : B ≤ w.heap.size) (hi : It w g1 g2 g3 o frm to)
    (hr : Rf w 5 body xs.length (xs.flatMap Sx.cells)) (hbd : xs ≠ [] → ∀ j, body.ownBlock = some j → j < B) (hxs : ∀ x ∈ xs, x.key.size ≤ 281474976710656) (hl : l.length + min xs.length 300 ≤ 90000) :
    Calls Try.prog 13 #[.pointer o, .pointer (some ⟨b, 0, none⟩), itV g1 g2 g3, .string frm, .string to, .int .i64 stop, body] w (GoP B w o t b vl l (min xs.length 300)) := by
  refine (follows_any ⟨B, w.heap.size, b, w, o, t, vl, l, frm, to, g1, g2, g3, stop, body, xs⟩ ⟨rfl, by simp only; omega, hp_lt hi.t, hp_lt hi.f, hp_lt hi.e, hbd, hxs, hl, h, hi, hr⟩).mono ?_
  rintro e w' ⟨rfl, t', vl', l', h1, h2, h3, h4, -⟩
  exact ⟨rfl, t', vl', l', ⟨h1, h2, h3, h4⟩⟩

end Go.Proofs.Ytkalppcekmlgbaa
