import Derived.Test.YthcoigbkdbkojaaGreatK13
import Derived.RangeFuncNested
import Derived.RangeFuncBound
import Derived.RangeFuncCalls
import Derived.RangeFuncLeaves
import Derived.Shelf.RegionOpen
import Derived.OwnWalkIn
import Derived.TacticsInMore
import Derived.Test.YthcoigbkdbkojaaGreatK07
import Derived.Shelf.Abstract
namespace Go.Proofs.YthcoigbkdbkojaaGreat.V
open Go.RowKit

theorem least_ex {R : Nat → Prop} : ∀ m, R m → ∃ k, R k ∧ ∀ j, R j → k ≤ j := by
  intro m
  induction m using Nat.strongRecOn with
  | ind m ih =>
    intro hm
    by_cases h : ∃ j, j < m ∧ R j
    · obtain ⟨j, hj, hr⟩ := h
      exact ih j hj hr
    · exact ⟨m, hm, fun j hj => by
        rcases Nat.lt_or_ge j m with h1 | h1
        · exact absurd ⟨j, h1, hj⟩ h
        · exact h1⟩
/-- The least number of a property. -/
theorem eps_spec {R : Nat → Prop} (h : ∃ m, R m) : R (Classical.epsilon (fun m => R m ∧ ∀ j, R j → m ≤ j)) ∧ ∀ j, R j → Classical.epsilon (fun m => R m ∧ ∀ j, R j → m ≤ j) ≤ j := by
  obtain ⟨m, hm⟩ := h
  exact Classical.epsilon_spec (p := fun m => R m ∧ ∀ j, R j → m ≤ j) (least_ex m hm)

/-- What the loop's body must leave alone: the iterator's own boxes. -/
def Boxed (N : Nat) (w w' : World) : Prop := ∀ k cs ty, N ≤ k → w.heap[k]? = some (.cells cs ty (0, 0)) → (ty = 9 ∨ ty = 141 ∨ ty = 143) → w'.heap[k]? = some (.cells cs ty (0, 0))

/-- Nothing more is to be handed on. -/
def Ended (to : ByteArray) (st : Bool) (last : ByteArray) (l : List En) : Prop := ∀ b k v, nx st last l = some (b, k, v) → to ≠ ⟨#[]⟩ ∧ kl to k = true

/-- At the loop's head, behind a step. -/
structure Hd (o : Option Addr) (gf gl gt : Nat) (I : Nat → Bool → ByteArray → Tr → World → Prop) (m : Nat) (i : Value) (w : World) (st : Bool) (last : ByteArray) (t : Tr) : Prop where
  i_ : I m st last t w
  n_ : i = optP (nx st last t.toL)
  sb : SB w gf gl gt o true (lst last (nx st last t.toL))

theorem Boxed.sb {N : Nat} {w w' : World} {gf gl gt : Nat} {o : Option Addr} {st : Bool} {last : ByteArray} (h : Boxed N w w') (hs : SB w gf gl gt o st last) (h1 : N ≤ gf) (h2 : N ≤ gl) (h3 : N ≤ gt) : SB w' gf gl gt o st last :=
  ⟨h _ _ _ h1 hs.f (by simp), h _ _ _ h2 hs.l (by simp), h _ _ _ h3 hs.t (by simp)⟩

/-- m steps are left at the most. -/
def RR (o : Option Addr) (gf gl gt : Nat) (I : Nat → Bool → ByteArray → Tr → World → Prop) (i : Value) (w : World) (m : Nat) : Prop := ∃ st last t, Hd o gf gl gt I m i w st last t

theorem leq_eq (a b : ByteArray) : (Op.bytesLess a.toList b.toList || (a.toList == b.toList)) = !kl b a := by
  rw [← gtr_eq a b]
  cases Op.bytesLess a.toList b.toList <;> cases (a.toList == b.toList) <;> rfl

theorem emp_eq {s : ByteArray} (h : s = ⟨#[]⟩) : (s.toList == []) = true := by subst h; simp [Lib.toList_data]
theorem emp_ne {s : ByteArray} (h : s ≠ ⟨#[]⟩) : (s.toList == []) = false := by
  have := keq_false h
  rw [show (⟨#[]⟩ : ByteArray).toList = [] by simp [Lib.toList_data]] at this
  exact this

theorem sbBelow {w w' : World} {gf gl gt : Nat} {o : Option Addr} {st : Bool} {last : ByteArray} (hs : SB w gf gl gt o st last) (hb : Below w.heap.size w w') : SB w' gf gl gt o st last :=
  ⟨hp_below hs.f hb (hp_lt hs.f), hp_below hs.l hb (hp_lt hs.l), hp_below hs.t hb (hp_lt hs.t)⟩

end Go.Proofs.YthcoigbkdbkojaaGreat.V

namespace Go.Proofs.YthcoigbkdbkojaaGreat.V
open Go.RowKit

/-- The iterator's own boxes are as they were. -/
def BoxedX (gf gl gt : Nat) (w w' : World) : Prop := w'.heap[gf]? = w.heap[gf]? ∧ w'.heap[gl]? = w.heap[gl]? ∧ w'.heap[gt]? = w.heap[gt]?

def IterPX (to : ByteArray) (I : Nat → Nat → Nat → Nat → Bool → ByteArray → Tr → World → Prop) (J : World → Prop) : Ending → World → Prop :=
  fun e w' => e = .returned (.tuple #[]) ∧ ((∃ gf gl gt m st last t, I gf gl gt m st last t w' ∧ Ended to st last t.toL) ∨ J w')

theorem BoxedX.sb {w w' : World} {gf gl gt : Nat} {o : Option Addr} {st : Bool} {last : ByteArray} (h : BoxedX gf gl gt w w') (hs : SB w gf gl gt o st last) : SB w' gf gl gt o st last :=
  ⟨h.1.trans hs.f, h.2.1.trans hs.l, h.2.2.trans hs.t⟩

end Go.Proofs.YthcoigbkdbkojaaGreat.V

namespace Go.Proofs.YthcoigbkdbkojaaGreat.V
open Go.RowKit

/-- A loop's body at the yield of loop l, and what holds between the steps; the iterator's own boxes are told. -/
structure BodyY (l : Nat) (o : Option Addr) (frm to : ByteArray) (g1 g2 g3 : Nat) (I : Nat → Nat → Nat → Nat → Bool → ByteArray → Tr → World → Prop) (J : World → Prop) : Prop where
  tb : ∀ {gf gl gt m st last t w}, I gf gl gt m st last t w → TO w o t ∧ Short t
  it : ∀ {gf gl gt m st last t w}, I gf gl gt m st last t w → It w g1 g2 g3 o frm to
  keep : ∀ {gf gl gt m st last t w w' S}, I gf gl gt m st last t w → Kept S w w' → (∀ k, S k → k = gf ∨ k = gl ∨ k = gt) → I gf gl gt m st last t w'
  run : ∀ {gf gl gt m st last t w b k v}, I gf gl gt m st last t w → nx st last t.toL = some (b, k, v) → (to = ⟨#[]⟩ ∨ kl to k = false) →
    ∀ n, YieldAt Fence.wide n Tryz.prog l #[.string k, v] w fun e w' => ∃ r, e = .returned (.bool r) ∧ BoxedX gf gl gt w w' ∧ (r = true → ∃ m' t', m' < m ∧ I gf gl gt m' true k t' w') ∧ (r = false → J w')

theorem keep_belowY {l : Nat} {o : Option Addr} {frm to : ByteArray} {g1 g2 g3 : Nat} {I : Nat → Nat → Nat → Nat → Bool → ByteArray → Tr → World → Prop} {J : World → Prop} (H : BodyY l o frm to g1 g2 g3 I J) {gf gl gt m : Nat} {st : Bool} {last : ByteArray} {t : Tr} {w w' : World} (h : I gf gl gt m st last t w) (hb : Below w.heap.size w w') : I gf gl gt m st last t w' :=
  H.keep h (Kept.ofBelow hb) (fun _ e => e.elim)

/-- A step between two rounds. -/
theorem step_onY {l : Nat} {o : Option Addr} {frm to : ByteArray} {g1 g2 g3 : Nat} {I : Nat → Nat → Nat → Nat → Bool → ByteArray → Tr → World → Prop} {J : World → Prop} (H : BodyY l o frm to g1 g2 g3 I J) {m gf gl gt : Nat} {st : Bool} {last : ByteArray} {t : Tr} {w : World} (h : I gf gl gt m st last t w) (hs : SB w gf gl gt o st last) :
    Calls Tryz.prog 176 #[.pointer (some ⟨gf, 0, none⟩), .pointer (some ⟨gl, 0, none⟩), .pointer (some ⟨gt, 0, none⟩)] w fun x w' => x = .returned (optP (nx st last t.toL)) ∧ Hd o gf gl gt (I gf gl gt) m (optP (nx st last t.toL)) w' st last t := by
  refine (step_any gf gl gt o st last t w (H.tb h).1 hs).mono ?_
  rintro x w' ⟨rfl, hs', hk⟩
  refine ⟨rfl, H.keep h hk ?_, rfl, hs'⟩
  rintro k (rfl | rfl)
  · exact .inl rfl
  · exact .inr (.inl rfl)

theorem mixed : Tryz.prog.follows .mixedOrders = true := by kernel_rfl

set_option maxRecDepth 100000 in
set_option maxHeartbeats 8000000 in
theorem iterY (l : Nat) {o : Option Addr} {frm to : ByteArray} {g1 g2 g3 : Nat} {I : Nat → Nat → Nat → Nat → Bool → ByteArray → Tr → World → Prop} {J : World → Prop} (H : BodyY l o frm to g1 g2 g3 I J) (m : Nat) (t : Tr) (w : World) (h : ∀ gf gl gt w1, Below w.heap.size w w1 → w.heap.size ≤ gf → w.heap.size ≤ gl → w.heap.size ≤ gt → SB w1 gf gl gt o false frm → I gf gl gt m false frm t w1) (hi : It w g1 g2 g3 o frm to) :
    Calls Tryz.prog 147 #[.func (.yield l) #[] #[], .pointer (some ⟨g1, 0, none⟩), .pointer (some ⟨g2, 0, none⟩), .pointer (some ⟨g3, 0, none⟩)] w (IterPX to I J) := by
  have c1 := cells1 hi.t
  have c2 := cells1 hi.f
  have S1 := hid (show Calls Tryz.prog 148 #[.pointer o, .string frm] w fun x w' => ∃ gf gl gt, x = .returned (.func (.func 176) #[] #[.pointer (some ⟨gf, 0, none⟩), .pointer (some ⟨gl, 0, none⟩), .pointer (some ⟨gt, 0, none⟩)]) ∧ Hid (SB w' gf gl gt o false frm ∧ I gf gl gt m false frm t w') from by
    refine (steps_any o frm w).mono ?_
    rintro x w' ⟨gf, gl, gt, rfl, hs, hb, q1, q2, q3⟩
    exact ⟨gf, gl, gt, rfl, hid ⟨hs, h gf gl gt w' hb (by omega) (by omega) (by omega) hs⟩⟩)
  have HH := hid H
  have hmx := mixed
  generalize hP : IterPX to I J = P
  have HP := hid hP
  clear hP h hi H
  go_enter Tryz.func147, Tryz.ntmps147
  go_wp2_with (first
    | (go_at_call 148
       refine S1.out.mono ?_
       rintro e w1 ⟨gf, gl, gt, rfl, N1⟩
       have S2 := hid (step_onY HH.out N1.out.2 N1.out.1)
       clear S1)
    | (go_at_call 176
       refine S2.out.mono ?_
       rintro e w2 ⟨rfl, hd⟩
       have N2 := hid hd
       clear hd S2))
  go_loopw [6] (fun i wr => ∃ m, Hid (RR o gf gl gt (I gf gl gt) i wr m)) (fun i wr => Classical.epsilon (fun m => RR o gf gl gt (I gf gl gt) i wr m ∧ ∀ j, RR o gf gl gt (I gf gl gt) i wr j → m ≤ j))
  case atStart => exact ⟨m, hid ⟨_, _, _, N2.out⟩⟩
  case round =>
    obtain ⟨m0, h0⟩ := hrel
    have hsp := eps_spec ⟨m0, h0.out⟩
    generalize hmm : Classical.epsilon (fun m => RR o gf gl gt (I gf gl gt) _ wr m ∧ ∀ j, RR o gf gl gt (I gf gl gt) _ wr j → m ≤ j) = mm at hsp ⊢
    have HMM := hid hmm
    obtain ⟨⟨st, last, t1, hd0⟩, -⟩ := hsp
    have hd := hid hd0
    have e0 := hd0.n_
    clear hd0 h0 N2 hmm
    cases hq : nx st last t1.toL with
    | none =>
      rw [hq] at e0
      have e1 : _ = Value.pointer none := e0
      subst e1
      have HQ := hid hq
      clear hq e0
      go_wp2_with fail
      go_quiet (fail)
      go_wp2
      go_end0
      rw [← HP.out]
      refine ⟨rfl, .inl ⟨gf, gl, gt, mm, st, last, t1, keep_belowY HH.out hd.out.i_ (blw_drewN (Below.refl _ _)), ?_⟩⟩
      intro b k v e
      rw [HQ.out] at e
      cases e
    | some c =>
      obtain ⟨b, k, v⟩ := c
      rw [hq] at e0
      have e1 : _ = Value.pointer (some ⟨b, 0, none⟩) := e0
      subst e1
      have HQ := hid hq
      obtain ⟨p', q', h', nd⟩ := (HH.out.tb hd.out.i_).1.at_.mem b k v (nx_mem hq)
      have d0 := (cells5 nd).1
      have d1 := (cells5 nd).2.1
      have hbl := hp_lt nd
      have c3 := cells1 (HH.out.it hd.out.i_).e
      have CL := hid (fun W => clone_any k W ((HH.out.tb hd.out.i_).2 _ (nx_mem hq)))
      have SBB := hid (show SB wr gf gl gt o true k from by have h5 := hd.out.sb; rw [hq] at h5; exact h5)
      clear hq e0 nd
      by_cases ht : to = ⟨#[]⟩
      · have b0 := emp_eq ht
        have HT := hid ht
        clear ht
        go_wp2_with fail
        go_quiet (fail)
        have BB := hid (show Below wr.heap.size wr (wr.drewN nq) from blw_drewN (Below.refl _ _))
        generalize wr.drewN nq = W3 at BB ⊢
        have d0' := (BB.out.cell (p := ⟨b, 0, none⟩) hbl).trans d0
        have d1' := (BB.out.cell (p := ⟨b, 1, none⟩) hbl).trans d1
        go_wp2_with fail
        refine (wpIn_wide (n := 5)).1 ?_
        gi_region_with_o (first
          | (refine ⟨trivial, ?_⟩
             gi_at_call 70
             refine (callsIn_wide.2 (CL.out _)).mono ?_
             rintro e w4 ⟨rfl, hb⟩
             have hb4 := below_on BB.out (undrew hb)
             have f0 := (hb4.cell (p := ⟨b, 0, none⟩) hbl).trans d0
             have f1 := (hb4.cell (p := ⟨b, 1, none⟩) hbl).trans d1
             have B4 := hid hb4
             obtain ⟨fn, tmps, assign, body, hy, hR⟩ := HH.out.run (keep_belowY HH.out hd.out.i_ B4.out) HQ.out (.inl HT.out) 4
             have HR := hid hR
             clear hb hb4 hR)
          | (refine HR.out.mono ?_
             rintro e w5 ⟨r, rfl, hbx, ht, hf⟩
             have N5 := hid (And.intro hbx (And.intro ht hf))
             clear hbx ht hf))
        all_goals
          cases r
          · have J5 := hid (N5.out.2.2 rfl)
            clear N5
            go_wp2
            go_end0
            rw [← HP.out]
            exact ⟨rfl, .inr J5.out⟩
          · obtain ⟨m', t', hlt, hI⟩ := N5.out.2.1 rfl
            have S5 := hid (step_onY HH.out hI (N5.out.1.sb (sbBelow SBB.out B4.out)))
            have HLT := hid hlt
            clear hI hlt
            go_wp2_with (
              go_at_call 176
              refine S5.out.mono ?_
              rintro e w6 ⟨rfl, hd6⟩
              have N6 := hid hd6
              clear hd6 S5)
            go_roundw
            case rel => exact ⟨m', hid ⟨_, _, _, N6.out⟩⟩
            case measure =>
              exact Nat.lt_of_le_of_lt ((eps_spec (R := RR o gf gl gt (I gf gl gt) _ w6) ⟨m', _, _, _, N6.out⟩).2 m' ⟨_, _, _, N6.out⟩) (Nat.lt_of_lt_of_eq HLT.out HMM.out.symm)
      · have b0 := emp_ne ht
        have b1 := leq_eq k to
        cases hk : kl to k
        · rw [hk] at b1
          have HT := hid hk
          have b1' : (Op.bytesLess k.toList to.toList || (k.toList == to.toList)) = true := b1
          clear ht hk b1
          go_wp2_with fail
          go_quiet (fail)
          have BB := hid (show Below wr.heap.size wr (wr.drewN nq) from blw_drewN (Below.refl _ _))
          generalize wr.drewN nq = W3 at BB ⊢
          have d0' := (BB.out.cell (p := ⟨b, 0, none⟩) hbl).trans d0
          have d1' := (BB.out.cell (p := ⟨b, 1, none⟩) hbl).trans d1
          go_wp2_with fail
          refine (wpIn_wide (n := 5)).1 ?_
          gi_region_with_o (first
            | (refine ⟨trivial, ?_⟩
               gi_at_call 70
               refine (callsIn_wide.2 (CL.out _)).mono ?_
               rintro e w4 ⟨rfl, hb⟩
               have hb4 := below_on BB.out (undrew hb)
               have f0 := (hb4.cell (p := ⟨b, 0, none⟩) hbl).trans d0
               have f1 := (hb4.cell (p := ⟨b, 1, none⟩) hbl).trans d1
               have B4 := hid hb4
               obtain ⟨fn, tmps, assign, body, hy, hR⟩ := HH.out.run (keep_belowY HH.out hd.out.i_ B4.out) HQ.out (.inr HT.out) 4
               have HR := hid hR
               clear hb hb4 hR)
            | (refine HR.out.mono ?_
               rintro e w5 ⟨r, rfl, hbx, ht, hf⟩
               have N5 := hid (And.intro hbx (And.intro ht hf))
               clear hbx ht hf))
          all_goals
            cases r
            · have J5 := hid (N5.out.2.2 rfl)
              clear N5
              go_wp2
              go_end0
              rw [← HP.out]
              exact ⟨rfl, .inr J5.out⟩
            · obtain ⟨m', t', hlt, hI⟩ := N5.out.2.1 rfl
              have S5 := hid (step_onY HH.out hI (N5.out.1.sb (sbBelow SBB.out B4.out)))
              have HLT := hid hlt
              clear hI hlt
              go_wp2_with (
                go_at_call 176
                refine S5.out.mono ?_
                rintro e w6 ⟨rfl, hd6⟩
                have N6 := hid hd6
                clear hd6 S5)
              go_roundw
              case rel => exact ⟨m', hid ⟨_, _, _, N6.out⟩⟩
              case measure =>
                exact Nat.lt_of_le_of_lt ((eps_spec (R := RR o gf gl gt (I gf gl gt) _ w6) ⟨m', _, _, _, N6.out⟩).2 m' ⟨_, _, _, N6.out⟩) (Nat.lt_of_lt_of_eq HLT.out HMM.out.symm)
        · rw [hk] at b1
          have HT := hid (And.intro ht hk)
          have b1' : (Op.bytesLess k.toList to.toList || (k.toList == to.toList)) = false := b1
          clear ht hk b1
          go_wp2_with fail
          go_quiet (fail)
          go_wp2
          go_end0
          rw [← HP.out]
          refine ⟨rfl, .inl ⟨gf, gl, gt, mm, st, last, t1, keep_belowY HH.out hd.out.i_ (blw_drewN (Below.refl _ _)), ?_⟩⟩
          intro b' k' v' e
          rw [HQ.out] at e
          injection e with e
          injection e with e1 e2
          injection e2 with e2 e3
          subst e2
          exact HT.out

end Go.Proofs.YthcoigbkdbkojaaGreat.V

namespace Go.Proofs.YthcoigbkdbkojaaGreat.V
open Go.RowKit

/-- What a loop over the table's Range keeps between its rounds. B: the heap's size where the loop begins. -/
structure RangeI (B : Nat) (o : Option Addr) (frm to : ByteArray) (g1 g2 g3 : Nat) (I : Nat → Nat → Nat → Nat → Bool → ByteArray → Tr → World → Prop) (Ix : World → Prop) : Prop where
  tb : ∀ {gf gl gt m st last t w}, I gf gl gt m st last t w → TO w o t ∧ Short t
  it : ∀ {gf gl gt m st last t w}, I gf gl gt m st last t w → It w g1 g2 g3 o frm to
  keep : ∀ {gf gl gt m st last t w w' S}, I gf gl gt m st last t w → Kept S w w' → (∀ k, S k → k = gf ∨ k = gl ∨ k = gt ∨ (B ≤ k ∧ ∃ ob : Obj, w.heap[k]? = some ob ∧ ob.isCells = false)) → I gf gl gt m st last t w'
  keepx : ∀ {w w' S}, Ix w → Kept S w w' → (∀ k, S k → B ≤ k ∧ ∃ ob : Obj, w.heap[k]? = some ob ∧ ob.isCells = false) → Ix w'

/-- How a round's body may be left. -/
def RangePost (B gf gl gt m : Nat) (k : ByteArray) (I : Nat → Nat → Nat → Nat → Bool → ByteArray → Tr → World → Prop) (Ix : World → Prop) (W : World) : Exit → Act → World → Prop
  | .normal, _, W' => KeepsFrom B W W' ∧ BoxedX gf gl gt W W' ∧ ∃ m' t', m' < m ∧ I gf gl gt m' true k t' W'
  | .ret, _, W' => KeepsFrom B W W' ∧ BoxedX gf gl gt W W' ∧ Ix W'
  | _, _, _ => False

theorem kept_put (W : World) (l : Nat) (ob : Obj) : Kept (fun j => j = l) W (W.putObj l ob) :=
  (Kept.refl (fun j => j = l) W).grown (grownBy_putObj' W l ob) (fun k _ e => by injection e with e; exact e.symm)

theorem put_off {W : World} {l j : Nat} (ob : Obj) (h : j ≠ l) : (W.putObj l ob).heap[j]? = W.heap[j]? := World.putObj_heap_other h

/-- A loop over the table's Range. -/
theorem rangeY {g : Operand} {ps : Array Tmp} {assign body : Code} {Q : Exit → Act → World → Prop} {a : Act} {w : World} {o : Option Addr} {frm to : ByteArray} {g1 g2 g3 : Nat}
    (hg : a.eval g = itV g1 g2 g3) (hps : ps.size = 2) {I : Nat → Nat → Nat → Nat → Bool → ByteArray → Tr → World → Prop} {Ix : World → Prop} (H : RangeI w.heap.size o frm to g1 g2 g3 I Ix) (m0 : Nat) (t0 : Tr) (hi : It w g1 g2 g3 o frm to)
    (h0 : ∀ gf gl gt w1, Below w.heap.size w w1 → w.heap.size ≤ gf → w.heap.size ≤ gl → w.heap.size ≤ gt → SB w1 gf gl gt o false frm → I gf gl gt m0 false frm t0 w1)
    (a1 : ByteArray → Value → Act)
    (hassign : ∀ (n l : Nat) (k : ByteArray) (v : Value) (W : World) (K : Act → World → Prop), K (a1 k v) W →
      assign.wpIn (Fence.wide.inRound l) n Tryz.prog (Exit.then K (fun _ _ _ => False)) { tmps := (ps.zip #[.string k, v]).foldl (fun t (p, u) => t.setIfInBounds p u) a.tmps, defers := [] } W)
    (hbody : ∀ (n l gf gl gt m : Nat) (st : Bool) (last : ByteArray) (t : Tr) (W : World) (b : Nat) (k : ByteArray) (v : Value), I gf gl gt m st last t W → nx st last t.toL = some (b, k, v) → (to = ⟨#[]⟩ ∨ kl to k = false) → 
      body.wpIn (Fence.wide.inRound l) n Tryz.prog (RangePost w.heap.size gf gl gt m k I Ix W) (a1 k v) W)
    (hdone : ∀ (D : Nat) (W : World) (gf gl gt m : Nat) (st : Bool) (last : ByteArray) (t : Tr), w.heap.size ≤ D → I gf gl gt m st last t W → Ended to st last t.toL → W.heap[D]? = some (.deferred (some [])) → Q .normal { a with defers := { target := .collected D, args := #[] } :: a.defers } W)
    (hstop : ∀ (D : Nat) (W : World), w.heap.size ≤ D → Ix W → W.heap[D]? = some (.deferred (some [])) → Q .ret { a with defers := { target := .collected D, args := #[] } :: a.defers } W) :
    (Code.rangeFunc g ps assign body).wp Tryz.prog Q a w := by
  refine (wpIn_wide (n := 9)).1 (wpIn_rangeFunc ?_)
  intro fn hfn
  obtain ⟨rc, hrc⟩ : ∃ rc : LoopState → Option Code → Loop, rc = fun st pe => { state := st, pending := pe, fn, tmps := a.tmps, params := ps, assign, body, defers := w.heap.size } := ⟨_, rfl⟩
  obtain ⟨L, hL⟩ : ∃ L, L = w.heap.size + 1 := ⟨_, rfl⟩
  obtain ⟨W1, hW1⟩ : ∃ W1, W1 = (w.alloc (.deferred (some []))).alloc (.loop (rc .ready none)) := ⟨_, rfl⟩
  have hsz : W1.heap.size = w.heap.size + 2 := by rw [hW1]; simp
  have hb1 : Below w.heap.size w W1 := by rw [hW1]; exact ((below_new w _)).alloc (by simp) _
  have hD1 : W1.heap[w.heap.size]? = some (.deferred (some [])) := by rw [hW1]; exact hp_alloc (hp_new w _) _
  have hL1 : W1.heap[L]? = some (.loop (rc .ready none)) := by
    rw [hW1, hL]
    have := hp_new (w.alloc (.deferred (some []))) (.loop (rc .ready none))
    rwa [World.size_alloc] at this
  refine ⟨L, [{ target := .collected w.heap.size, args := #[] }], W1, { target := .fn (.func 147) #[.pointer (some ⟨g1, 0, none⟩), .pointer (some ⟨g2, 0, none⟩), .pointer (some ⟨g3, 0, none⟩)], args := #[.func (.yield L) #[] #[]] }, W1, 147,
    #[.func (.yield L) #[] #[], .pointer (some ⟨g1, 0, none⟩), .pointer (some ⟨g2, 0, none⟩), .pointer (some ⟨g3, 0, none⟩)], W1, ?_, ?_, ?_, ?_, ?_, callsIn_wide.2 ?_⟩
  · rw [hW1, hL, hrc]
    exact run_enterLoop_outer _ _ _ _ _
  · simp only [resolve, hg]
    simp [go_sem]
  · intro f' _
    exact trivial
  · simp [invoke, go_sem]
  · intro hd
    cases hd
  · have HB : BodyY L o frm to g1 g2 g3
        (fun gf gl gt m st last t W => I gf gl gt m st last t W ∧ W.heap[L]? = some (.loop (rc .ready none)) ∧ W.heap[w.heap.size]? = some (.deferred (some [])) ∧ (∀ j, j = gf ∨ j = gl ∨ j = gt → L < j))
        (fun W => Ix W ∧ W.heap[L]? = some (.loop (rc .done (some .ret))) ∧ W.heap[w.heap.size]? = some (.deferred (some []))) := by
      refine ⟨fun h => H.tb h.1, fun h => H.it h.1, ?_, ?_⟩
      · intro gf gl gt m st last t A B S h hk hS
        refine ⟨H.keep h.1 hk (fun k hk' => ?_), ?_, ?_, h.2.2.2⟩
        · rcases hS k hk' with e | e | e
          · exact .inl e
          · exact .inr (.inl e)
          · exact .inr (.inr (.inl e))
        · exact hp_kept h.2.1 hk (fun e => by have := h.2.2.2 _ (hS _ e); omega)
        · exact hp_kept h.2.2.1 hk (fun e => by have := h.2.2.2 _ (hS _ e); omega)
      · intro gf gl gt m st last t W b k v h hq hc n'
        obtain ⟨hI, hl, hd, ho⟩ := h
        have hy := run_yield (P := Tryz.prog) (args := #[.string k, v]) hl (by rw [hrc]; exact hps.symm)
        rw [hrc] at hy
        refine ⟨fn, _, assign, body, hy, ?_⟩
        refine roundIn_of_wpIn trivial (hassign n' L k v W _ ?_)
        obtain ⟨W2, hW2⟩ : ∃ W2, W2 = W.putObj L (.loop { rc .ready none with state := .busy }) := ⟨_, rfl⟩
        have hLl : L < W.heap.size := hp_lt hl
        have hl2 : W2.heap[L]? = some (.loop { rc .ready none with state := .busy }) := by rw [hW2]; exact World.putObj_heap_same hLl
        have hd2 : W2.heap[w.heap.size]? = some (.deferred (some [])) := by rw [hW2, put_off _ (by omega)]; exact hd
        have k2 : Kept (fun j => j = L) W W2 := by rw [hW2]; exact kept_put _ _ _
        have hI2 := H.keep hI k2 (fun j e => .inr (.inr (.inr ⟨by subst e; omega, _, by subst e; exact hl, rfl⟩)))
        refine ⟨W2, by rw [hW2]; exact run_beginRound hl (by rw [hrc]), wpIn_mono (hbody n' L gf gl gt m st last t W2 b k v hI2 hq hc) ?_⟩
        have FIN : ∀ (jump : Option Code) (W3 : World), KeepsFrom w.heap.size W2 W3 → BoxedX gf gl gt W2 W3 → ∃ W4, (Instr.endRound L jump).run Tryz.prog W3 = .ok (.bool jump.isNone) W4 ∧ Kept (fun j => j = L) W3 W4 ∧ W3.heap[L]? = some (.loop { rc .ready none with state := .busy }) ∧
            W4.heap[L]? = some (.loop (rc (if jump.isNone then .ready else .done) jump)) ∧ W4.heap[w.heap.size]? = some (.deferred (some [])) ∧ BoxedX gf gl gt W W4 := by
          intro jump W3 hk3 hbx
          have hl3 := hk3.same _ _ (by omega) hl2 rfl
          have hd3 := hk3.same _ _ (Nat.le_refl _) hd2 rfl
          have hr := run_endRound (P := Tryz.prog) jump hl3
          refine ⟨_, hr, kept_put _ _ _, hl3, ?_, ?_, ?_⟩
          · rw [World.putObj_heap_same (hp_lt hl3), hrc]
          · rw [put_off _ (by omega)]; exact hd3
          · have e : ∀ j, j = gf ∨ j = gl ∨ j = gt → j ≠ L := fun j hj e => by have := ho j hj; omega
            refine ⟨?_, ?_, ?_⟩
            · rw [put_off _ (e gf (.inl rfl)), hbx.1, hW2, put_off _ (e gf (.inl rfl))]
            · rw [put_off _ (e gl (.inr (.inl rfl))), hbx.2.1, hW2, put_off _ (e gl (.inr (.inl rfl)))]
            · rw [put_off _ (e gt (.inr (.inr rfl))), hbx.2.2, hW2, put_off _ (e gt (.inr (.inr rfl)))]
        intro e a3 W3 hp
        cases e with
        | normal =>
          obtain ⟨hk3, hbx, m', t', hm, hI3⟩ := hp
          obtain ⟨W4, hr, hk4, hl3, hl4, hd4, hb4⟩ := FIN none W3 hk3 hbx
          refine ⟨_, W4, hr, true, rfl, hb4, fun _ => ⟨m', t', hm, H.keep hI3 hk4 (fun j e => .inr (.inr (.inr ⟨by subst e; omega, _, by subst e; exact hl3, rfl⟩))), hl4, hd4, ho⟩, fun e => (by cases e)⟩
        | ret =>
          obtain ⟨hk3, hbx, hx⟩ := hp
          obtain ⟨W4, hr, hk4, hl3, hl4, hd4, hb4⟩ := FIN (some .ret) W3 hk3 hbx
          refine ⟨_, W4, hr, false, rfl, hb4, fun e => (by cases e), fun _ => ⟨H.keepx hx hk4 (fun j e => ⟨by subst e; omega, _, by subst e; exact hl3, rfl⟩), hl4, hd4⟩⟩
        | exit id => exact hp.elim
        | goto t => exact hp.elim
        | panic ch => exact hp.elim
        | outgrown => exact hp.elim
    refine (iterY L HB m0 t0 W1 ?_ ?_).mono ?_
    · intro gf gl gt w1 hb q1 q2 q3 hs
      have hs1 := hsz
      refine ⟨h0 gf gl gt w1 (below_on hb1 hb) (by omega) (by omega) (by omega) hs, hp_below hL1 hb (hp_lt hL1), hp_below hD1 hb (hp_lt hD1), ?_⟩
      rintro j (rfl | rfl | rfl) <;> omega
    · exact ⟨hp_below hi.t hb1 (hp_lt hi.t), hp_below hi.f hb1 (hp_lt hi.f), hp_below hi.e hb1 (hp_lt hi.e)⟩
    · rintro e W2 ⟨rfl, (⟨gf, gl, gt, m, st, last, t, ⟨hI, hl, hd, -⟩, hE⟩ | ⟨hx, hl, hd⟩)⟩
      · refine ⟨none, _, (run_endLoop (P := Tryz.prog) hl (by rw [hrc]; simp)).trans (by rw [hrc]), ?_⟩
        exact hdone w.heap.size _ gf gl gt m st last t (Nat.le_refl _) (H.keep hI (kept_put _ _ _) (fun j e => .inr (.inr (.inr ⟨by subst e; omega, _, by subst e; exact hl, rfl⟩)))) hE (by rw [put_off _ (by omega)]; exact hd)
      · refine ⟨some .ret, _, (run_endLoop (P := Tryz.prog) hl (by rw [hrc]; simp)).trans (by rw [hrc]), ?_⟩
        refine wpIn_ret ?_
        exact hstop w.heap.size _ (Nat.le_refl _) (H.keepx hx (kept_put _ _ _) (fun j e => ⟨by subst e; omega, _, by subst e; exact hl, rfl⟩)) (by rw [put_off _ (by omega)]; exact hd)

end Go.Proofs.YthcoigbkdbkojaaGreat.V

namespace Go.Proofs.YthcoigbkdbkojaaGreat.V
open Go.RowKit

/-- Is an entry still to come? -/
def cmg (st : Bool) (last : ByteArray) (e : En) : Bool := if st then kl last e.2.1 else !kl e.2.1 last
/-- How many are still ahead. -/
def ahd (st : Bool) (last : ByteArray) (l : List En) : Nat := l.countP (cmg st last)

theorem count_less {α : Type} {p q : α → Bool} : ∀ {l : List α} {x : α}, (∀ y ∈ l, p y = true → q y = true) → x ∈ l → q x = true → p x = false → l.countP p < l.countP q
  | [], _, _, h, _, _ => by cases h
  | a :: l, x, hpq, hx, hq, hp => by
    have hle : l.countP p ≤ l.countP q := List.countP_mono_left (fun y hy => hpq y (by simp [hy]))
    rw [List.countP_cons, List.countP_cons]
    rcases List.mem_cons.1 hx with e | hx
    · subst e
      rw [hq, hp]
      simp only [if_true, Bool.false_eq_true, if_false]
      omega
    · have := count_less (fun y hy => hpq y (by simp [hy])) hx hq hp
      have h1 := hpq a (by simp)
      cases h2 : p a <;> cases h3 : q a <;> simp_all <;> omega

theorem nx_cmg (st : Bool) (last : ByteArray) (l : List En) : nx st last l = l.find? (cmg st last) := by
  cases st <;> rfl

/-- The first of a rising list that fits. -/
theorem find_first {p : En → Bool} {l : List En} {e : En} (hr : Rises l) (h : l.find? p = some e) : e ∈ l ∧ p e = true ∧ ∀ e' ∈ l, p e' = true → e' = e ∨ kl e.2.1 e'.2.1 = true := by
  refine ⟨List.mem_of_find?_eq_some h, List.find?_some h, ?_⟩
  obtain ⟨hp, l1, bs, rfl, has⟩ := List.find?_eq_some_iff_append.1 h
  intro e' he' hp'
  rcases List.mem_append.1 he' with h1 | h1
  · have := has e' h1
    rw [hp'] at this
    cases this
  · rcases List.mem_cons.1 h1 with h2 | h2
    · exact .inl h2
    · right
      have h3 : Rises (e :: bs) := (List.pairwise_append.1 hr).2.1
      exact (List.pairwise_cons.1 h3).1 e' h2

theorem find_is {p : En → Bool} {l : List En} {e : En} (hr : Rises l) (he : e ∈ l) (hp : p e = true) (ho : ∀ e' ∈ l, kl e'.2.1 e.2.1 = true → p e' = false) : l.find? p = some e := by
  cases h : l.find? p with
  | none => exact absurd hp (by rw [List.find?_eq_none] at h; exact h e he)
  | some c =>
    obtain ⟨h1, h2, h3⟩ := find_first hr h
    rcases h3 e he hp with h4 | h4
    · rw [h4]
    · have := ho c h1 h4
      rw [h2] at this
      cases this

theorem cmg_up {st : Bool} {last k : ByteArray} {e : En} (h : (if st then kl last k else !kl k last) = true) (hk : kl k e.2.1 = true) : cmg st last e = true := by
  unfold cmg
  cases st
  · simp only [Bool.false_eq_true, if_false] at h ⊢
    have : kl k last = false := by simpa using h
    simp [kl_asymm (kl_le' this hk)]
  · simp only [if_true] at h ⊢
    exact kl_trans h hk

theorem ahd_less {st : Bool} {last : ByteArray} {l : List En} {b : Nat} {k : ByteArray} {v : Value} (hq : nx st last l = some (b, k, v)) : ahd true k l < ahd st last l := by
  rw [nx_cmg] at hq
  have h1 : cmg st last (b, k, v) = true := List.find?_some hq
  refine count_less (x := (b, k, v)) (fun y _ hy => cmg_up (k := k) h1 hy) (List.mem_of_find?_eq_some hq) h1 ?_
  exact kl_irrefl k

/-- What is seen in a slot: the copy that is read, or the one that is held. -/
def see (h : Bool) (s : Sd) : Pd × Bool := if h then (s.copy (!s.w), s.has (!s.w)) else (s.copy s.r, s.has s.r)
/-- Is an entry between two ends, and is something seen in it? -/
def fitE (h : Bool) (f : Nat → Sd) (frm to : ByteArray) (e : En) : Bool := !kl e.2.1 frm && ((to.toList == []) || !kl to e.2.1) && (see h (f (bk e.2.2))).2
def leastE (h : Bool) (f : Nat → Sd) (frm to : ByteArray) (l : List En) : Option En := l.find? (fitE h f frm to)

/-- Nothing is seen in what has been passed. -/
def Passed (h : Bool) (f : Nat → Sd) (frm : ByteArray) (st : Bool) (last : ByteArray) (l : List En) : Prop :=
  (st = false → last = frm) ∧ (st = true → kl last frm = false) ∧ ∀ e ∈ l, kl e.2.1 frm = false → cmg st last e = false → (see h (f (bk e.2.2))).2 = false

theorem passed_start (h : Bool) (f : Nat → Sd) (frm : ByteArray) (l : List En) : Passed h f frm false frm l := by
  refine ⟨fun _ => rfl, fun e => (by cases e), fun e _ h1 h2 => ?_⟩
  unfold cmg at h2
  simp [h1] at h2

theorem nx_from {st : Bool} {last frm k : ByteArray} (h1 : st = false → last = frm) (h2 : st = true → kl last frm = false) (hk : (if st then kl last k else !kl k last) = true) : kl k frm = false := by
  cases st
  · simp only [Bool.false_eq_true, if_false] at hk
    rw [h1 rfl] at hk
    simpa using hk
  · simp only [if_true] at hk
    exact kl_asymm (kl_le' (h2 rfl) hk)

theorem passed_on {h : Bool} {f : Nat → Sd} {frm : ByteArray} {st : Bool} {last : ByteArray} {l : List En} {b : Nat} {k : ByteArray} {v : Value} (hr : Rises l) (hp : Passed h f frm st last l) (hq : nx st last l = some (b, k, v)) (hs : (see h (f (bk v))).2 = false) : Passed h f frm true k l := by
  rw [nx_cmg] at hq
  obtain ⟨h1, h2, h3⟩ := find_first hr hq
  refine ⟨fun e => (by cases e), fun _ => nx_from hp.1 hp.2.1 h2, fun e he h4 h5 => ?_⟩
  cases hc : cmg st last e
  · exact hp.2.2 e he h4 hc
  · rcases h3 e he hc with rfl | h6
    · exact hs
    · unfold cmg at h5
      simp only [if_true] at h5
      rw [h6] at h5
      cases h5

theorem least_found {h : Bool} {f : Nat → Sd} {frm to : ByteArray} {st : Bool} {last : ByteArray} {l : List En} {b : Nat} {k : ByteArray} {v : Value} (hr : Rises l) (hp : Passed h f frm st last l) (hq : nx st last l = some (b, k, v)) (ht : to = ⟨#[]⟩ ∨ kl to k = false) (hs : (see h (f (bk v))).2 = true) : leastE h f frm to l = some (b, k, v) := by
  rw [nx_cmg] at hq
  obtain ⟨h1, h2, h3⟩ := find_first hr hq
  refine find_is hr h1 ?_ ?_
  · unfold fitE
    have e1 : kl k frm = false := nx_from hp.1 hp.2.1 h2
    have e2 : ((to.toList == []) || !kl to k) = true := by
      rcases ht with h | h
      · rw [emp_eq h]; rfl
      · simp [h]
    simp only [e1, e2, hs]
    rfl
  · intro e he hk
    unfold fitE
    cases h4 : kl e.2.1 frm
    · have : cmg st last e = false := by
        cases hc : cmg st last e
        · rfl
        · rcases h3 e he hc with rfl | h6
          · rw [kl_irrefl] at hk; cases hk
          · rw [kl_asymm h6] at hk; cases hk
      rw [hp.2.2 e he h4 this]
      simp
    · simp

theorem least_none {h : Bool} {f : Nat → Sd} {frm to : ByteArray} {st : Bool} {last : ByteArray} {l : List En} (hr : Rises l) (hp : Passed h f frm st last l) (hE : Ended to st last l) : leastE h f frm to l = none := by
  unfold leastE
  rw [List.find?_eq_none]
  intro e he hf
  unfold fitE at hf
  simp only [Bool.and_eq_true, Bool.not_eq_true', Bool.or_eq_true] at hf
  obtain ⟨⟨h1, h2⟩, h3⟩ := hf
  cases hc : cmg st last e
  · rw [hp.2.2 e he h1 hc] at h3; cases h3
  · cases hq : nx st last l with
    | none =>
      rw [nx_cmg, List.find?_eq_none] at hq
      exact absurd hc (hq e he)
    | some c =>
      obtain ⟨b, k, v⟩ := c
      obtain ⟨h4, h5⟩ := hE b k v hq
      rw [nx_cmg] at hq
      obtain ⟨_, _, h6⟩ := find_first hr hq
      rcases h2 with h2 | h2
      · rw [emp_ne h4] at h2; cases h2
      · rcases h6 e he hc with rfl | h7
        · rw [h5] at h2; cases h2
        · rw [kl_trans h5 h7] at h2; cases h2

end Go.Proofs.YthcoigbkdbkojaaGreat.V
