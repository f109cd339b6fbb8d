import Derived.Test.YtkalppcekmlgbabRb
namespace Go.Proofs.Ytkalppcekmlgbab
open Go.RowKit

/-- The iterator's own boxes are as they were. -/
def BoxedX (gf gl gt : Nat) (w w' : World) : Prop := w'.heap[gf]? = w.heap[gf]? ∧ w'.heap[gl]? = w.heap[gl]? ∧ w'.heap[gt]? = w.heap[gt]?

/-- A loop's body, and what holds between the steps; the iterator's own boxes are told. -/
structure BodyX (o : Option Addr) (frm to : ByteArray) (g1 g2 g3 : Nat) (Y : Nat) (caps : List Value) (I : Nat → Nat → Nat → Nat → Bool → ByteArray → Tr → World → Prop) (J : World → Prop) : Prop where
  tb : ∀ {gf gl gt m st last t w}, I gf gl gt m st last t w → TO w o t ∧ Short t
  it : ∀ {gf gl gt m st last t w}, I gf gl gt m st last t w → It w g1 g2 g3 o frm to
  keep : ∀ {gf gl gt m st last t w w' S}, I gf gl gt m st last t w → Kept S w w' → (∀ k, S k → k = gf ∨ k = gl ∨ k = gt) → I gf gl gt m st last t w'
  run : ∀ {gf gl gt m st last t w b k v}, I gf gl gt m st last t w → nx st last t.toL = some (b, k, v) → (to = ⟨#[]⟩ ∨ kl to k = false) →
    Calls Try.prog Y ([.string k, v] ++ caps).toArray w fun e w' => ∃ r, e = .returned (.bool r) ∧ BoxedX gf gl gt w w' ∧ (r = true → ∃ m' t', m' < m ∧ I gf gl gt m' true k t' w') ∧ (r = false → J w')

def IterPX (to : ByteArray) (I : Nat → Nat → Nat → Nat → Bool → ByteArray → Tr → World → Prop) (J : World → Prop) : Ending → World → Prop :=
  fun e w' => e = .returned (.tuple #[]) ∧ ((∃ gf gl gt m st last t, I gf gl gt m st last t w' ∧ Ended to st last t.toL) ∨ J w')

theorem BoxedX.sb {w w' : World} {gf gl gt : Nat} {o : Option Addr} {st : Bool} {last : ByteArray} (h : BoxedX gf gl gt w w') (hs : SB w gf gl gt o st last) : SB w' gf gl gt o st last :=
  ⟨h.1.trans hs.f, h.2.1.trans hs.l, h.2.2.trans hs.t⟩

theorem keep_belowX {o : Option Addr} {frm to : ByteArray} {g1 g2 g3 Y : Nat} {caps : List Value} {I : Nat → Nat → Nat → Nat → Bool → ByteArray → Tr → World → Prop} {J : World → Prop} (H : BodyX o frm to g1 g2 g3 Y caps I J) {gf gl gt m : Nat} {st : Bool} {last : ByteArray} {t : Tr} {w w' : World} (h : I gf gl gt m st last t w) (hb : Below w.heap.size w w') : I gf gl gt m st last t w' :=
  H.keep h (Kept.ofBelow hb) (fun _ e => e.elim)

/-- A step between two rounds. -/
theorem step_onX {o : Option Addr} {frm to : ByteArray} {g1 g2 g3 Y : Nat} {caps : List Value} {I : Nat → Nat → Nat → Nat → Bool → ByteArray → Tr → World → Prop} {J : World → Prop} (H : BodyX o frm to g1 g2 g3 Y caps I J) {m gf gl gt : Nat} {st : Bool} {last : ByteArray} {t : Tr} {w : World} (h : I gf gl gt m st last t w) (hs : SB w gf gl gt o st last) :
    Calls Try.prog 57 #[.pointer (some ⟨gf, 0, none⟩), .pointer (some ⟨gl, 0, none⟩), .pointer (some ⟨gt, 0, none⟩)] w fun x w' => x = .returned (optP (nx st last t.toL)) ∧ Hd o gf gl gt (I gf gl gt) m (optP (nx st last t.toL)) w' st last t := by
  refine (step_any gf gl gt o st last t w (H.tb h).1 hs).mono ?_
  rintro x w' ⟨rfl, hs', hk⟩
  refine ⟨rfl, H.keep h hk ?_, rfl, hs'⟩
  rintro k (rfl | rfl)
  · exact .inl rfl
  · exact .inr (.inl rfl)

end Go.Proofs.Ytkalppcekmlgbab
