import Derived.Test.YtkalppcekmlgbabRa
namespace Go.Proofs.Ytkalppcekmlgbab
open Go.RowKit

theorem least_ex {R : Nat → Prop} : ∀ m, R m → ∃ k, R k ∧ ∀ j, R j → k ≤ j := by
  intro m
  induction m using Nat.strongRecOn with
  | ind m ih =>
    intro hm
    by_cases h : ∃ j, j < m ∧ R j
    · obtain ⟨j, hj, hr⟩ := h
      exact ih j hj hr
    · exact ⟨m, hm, fun j hj => by
        rcases Nat.lt_or_ge j m with h1 | h1
        · exact absurd ⟨j, h1, hj⟩ h
        · exact h1⟩
/-- The least number of a property. -/
theorem eps_spec {R : Nat → Prop} (h : ∃ m, R m) : R (Classical.epsilon (fun m => R m ∧ ∀ j, R j → m ≤ j)) ∧ ∀ j, R j → Classical.epsilon (fun m => R m ∧ ∀ j, R j → m ≤ j) ≤ j := by
  obtain ⟨m, hm⟩ := h
  exact Classical.epsilon_spec (p := fun m => R m ∧ ∀ j, R j → m ≤ j) (least_ex m hm)

/-- What the loop's body must leave alone: the iterator's own boxes. -/
def Boxed (N : Nat) (w w' : World) : Prop := ∀ k cs ty, N ≤ k → w.heap[k]? = some (.cells cs ty (0, 0)) → (ty = 9 ∨ ty = 49 ∨ ty = 91) → w'.heap[k]? = some (.cells cs ty (0, 0))

/-- A loop's body, and what holds between the steps. I m st last t w: m bounds the steps that are left. -/
structure Body (N : Nat) (o : Option Addr) (frm to : ByteArray) (g1 g2 g3 : Nat) (Y : Nat) (caps : List Value) (I : Nat → Bool → ByteArray → Tr → World → Prop) (J : World → Prop) : Prop where
  tb : ∀ {m st last t w}, I m st last t w → TO w o t ∧ Short t
  it : ∀ {m st last t w}, I m st last t w → It w g1 g2 g3 o frm to
  nn : ∀ {m st last t w}, I m st last t w → N ≤ w.heap.size
  keep : ∀ {m st last t w w' S}, I m st last t w → Kept S w w' → (∀ k, S k → N ≤ k ∧ ∃ cs ty, w.heap[k]? = some (.cells cs ty (0, 0)) ∧ (ty = 9 ∨ ty = 49 ∨ ty = 91)) → I m st last t w'
  run : ∀ {m st last t w b k v}, I m st last t w → nx st last t.toL = some (b, k, v) → (to = ⟨#[]⟩ ∨ kl to k = false) →
    Calls Try.prog Y ([.string k, v] ++ caps).toArray w fun e w' => ∃ r, e = .returned (.bool r) ∧ Boxed N w w' ∧ (r = true → ∃ m' t', m' < m ∧ I m' true k t' w') ∧ (r = false → J w')

/-- Nothing more is to be handed on. -/
def Ended (to : ByteArray) (st : Bool) (last : ByteArray) (l : List En) : Prop := ∀ b k v, nx st last l = some (b, k, v) → to ≠ ⟨#[]⟩ ∧ kl to k = true

def IterP (to : ByteArray) (I : Nat → Bool → ByteArray → Tr → World → Prop) (J : World → Prop) : Ending → World → Prop :=
  fun e w' => e = .returned (.tuple #[]) ∧ ((∃ m st last t, I m st last t w' ∧ Ended to st last t.toL) ∨ J w')

/-- At the loop's head, behind a step. -/
structure Hd (o : Option Addr) (gf gl gt : Nat) (I : Nat → Bool → ByteArray → Tr → World → Prop) (m : Nat) (i : Value) (w : World) (st : Bool) (last : ByteArray) (t : Tr) : Prop where
  i_ : I m st last t w
  n_ : i = optP (nx st last t.toL)
  sb : SB w gf gl gt o true (lst last (nx st last t.toL))

theorem Boxed.sb {N : Nat} {w w' : World} {gf gl gt : Nat} {o : Option Addr} {st : Bool} {last : ByteArray} (h : Boxed N w w') (hs : SB w gf gl gt o st last) (h1 : N ≤ gf) (h2 : N ≤ gl) (h3 : N ≤ gt) : SB w' gf gl gt o st last :=
  ⟨h _ _ _ h1 hs.f (by simp), h _ _ _ h2 hs.l (by simp), h _ _ _ h3 hs.t (by simp)⟩

theorem keep_below {N : Nat} {o : Option Addr} {frm to : ByteArray} {g1 g2 g3 Y : Nat} {caps : List Value} {I : Nat → Bool → ByteArray → Tr → World → Prop} {J : World → Prop} (H : Body N o frm to g1 g2 g3 Y caps I J) {m : Nat} {st : Bool} {last : ByteArray} {t : Tr} {w w' : World} (h : I m st last t w) (hb : Below w.heap.size w w') : I m st last t w' :=
  H.keep h (Kept.ofBelow hb) (fun _ e => e.elim)

/-- A step between two rounds. -/
theorem step_on {N : Nat} {o : Option Addr} {frm to : ByteArray} {g1 g2 g3 Y : Nat} {caps : List Value} {I : Nat → Bool → ByteArray → Tr → World → Prop} {J : World → Prop} (H : Body N o frm to g1 g2 g3 Y caps I J) {m gf gl gt : Nat} {st : Bool} {last : ByteArray} {t : Tr} {w : World} (h : I m st last t w) (hs : SB w gf gl gt o st last) (h1 : N ≤ gf) (h2 : N ≤ gl) :
    Calls Try.prog 57 #[.pointer (some ⟨gf, 0, none⟩), .pointer (some ⟨gl, 0, none⟩), .pointer (some ⟨gt, 0, none⟩)] w fun x w' => x = .returned (optP (nx st last t.toL)) ∧ Hd o gf gl gt I m (optP (nx st last t.toL)) w' st last t := by
  refine (step_any gf gl gt o st last t w (H.tb h).1 hs).mono ?_
  rintro x w' ⟨rfl, hs', hk⟩
  refine ⟨rfl, H.keep h hk ?_, rfl, hs'⟩
  rintro k (rfl | rfl)
  · exact ⟨h1, _, _, hs.f, by simp⟩
  · exact ⟨h2, _, _, hs.l, by simp⟩

/-- m steps are left at the most. -/
def RR (o : Option Addr) (gf gl gt : Nat) (I : Nat → Bool → ByteArray → Tr → World → Prop) (i : Value) (w : World) (m : Nat) : Prop := ∃ st last t, Hd o gf gl gt I m i w st last t

theorem leq_eq (a b : ByteArray) : (Op.bytesLess a.toList b.toList || (a.toList == b.toList)) = !kl b a := by
  rw [← gtr_eq a b]
  cases Op.bytesLess a.toList b.toList <;> cases (a.toList == b.toList) <;> rfl

theorem emp_eq {s : ByteArray} (h : s = ⟨#[]⟩) : (s.toList == []) = true := by subst h; simp [Lib.toList_data]
theorem emp_ne {s : ByteArray} (h : s ≠ ⟨#[]⟩) : (s.toList == []) = false := by
  have := keq_false h
  rw [show (⟨#[]⟩ : ByteArray).toList = [] by simp [Lib.toList_data]] at this
  exact this

theorem sbBelow {w w' : World} {gf gl gt : Nat} {o : Option Addr} {st : Bool} {last : ByteArray} (hs : SB w gf gl gt o st last) (hb : Below w.heap.size w w') : SB w' gf gl gt o st last :=
  ⟨hp_below hs.f hb (hp_lt hs.f), hp_below hs.l hb (hp_lt hs.l), hp_below hs.t hb (hp_lt hs.t)⟩

end Go.Proofs.Ytkalppcekmlgbab
