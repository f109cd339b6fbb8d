import Derived.Test.YtkalppcekmlgbabVsPj
namespace Go.Proofs.Ytkalppcekmlgbab.Vs
open Go.RowKit

theorem Kept.belowOf {S : Nat → Prop} {w0 w w' : World} {B : Nat} (h0 : Below B w0 w) (h : Kept S w w') (hB : B ≤ w.heap.size) (hs : ∀ i, S i → B ≤ i) : Below B w0 w' :=
  h0.trans (h.below hB (fun k hk hS => by have := hs k hS; omega))

/-- A table of the call's own, made behind B. -/
structure TI (B : Nat) (w0 w : World) (p : Nat) (t : Tr) : Prop where
  bl : Below B w0 w
  hp : B ≤ p
  tb : Tb w p t
  ow : ∀ i ∈ t.bs, B ≤ i

theorem TI.put {B : Nat} {w0 w w' : World} {p : Nat} {t t' : Tr} {key : ByteArray} {u : Value} (h : TI B w0 w p t) (hp : PutP w w' p t t' key u) : TI B w0 w' p t' := by
  have hz := hp_lt h.tb.blk
  have hB := h.hp
  refine ⟨Kept.belowOf h.bl hp.kp (by omega) (fun i hi => ?_), h.hp, hp.tb, fun i hi => ?_⟩
  · rcases hi with rfl | hi
    · exact h.hp
    · exact h.ow i hi
  · rcases hp.nw i hi with h1 | h1
    · exact h.ow i h1
    · omega
theorem TI.below {B : Nat} {w0 w w' : World} {p : Nat} {t : Tr} (h : TI B w0 w p t) (hb : Below w.heap.size w w') : TI B w0 w' p t := by
  have hz := hp_lt h.tb.blk
  have hB := h.hp
  exact ⟨h.bl.trans (hb.mono (by omega)), h.hp, h.tb.below hb, h.ow⟩
theorem TI.to {B : Nat} {w0 w : World} {p : Nat} {t : Tr} (h : TI B w0 w p t) : TO w (some ⟨p, 0, none⟩) t := .inr ⟨p, rfl, h.tb⟩

end Go.Proofs.Ytkalppcekmlgbab.Vs
