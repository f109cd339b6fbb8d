import Derived.Test.YthjggbcppgbdoabK04
import Derived.Laws.EntriesVeiled
import Derived.RangeFuncNested
import Derived.RangeFuncBound
import Derived.RangeFuncCalls
import Derived.RangeFuncLeaves
import Derived.Shelf.RegionOpen
import Derived.OwnWalkIn
import Derived.TacticsInMore
namespace Go.Proofs.Ythjggbcppgbdoab
open Go.RowKit

/-- The next one: at or above from, then above the last one. -/
def nx (st : Bool) (last : ByteArray) (l : List En) : Option En := if st then gtrE last l else geqE last l
def lst (last : ByteArray) : Option En → ByteArray
  | none => last
  | some e => e.2.1

/-- A step function's boxes. -/
structure SB (w : World) (gf gl gt : Nat) (o : Option Addr) (st : Bool) (last : ByteArray) : Prop where
  f : w.heap[gf]? = some (.cells #[.func (.func (if st then 62 else 59)) #[.pointer o] #[]] 103 (0, 0))
  l : Bx w gl last
  t : w.heap[gt]? = some (.cells #[.pointer o] 101 (0, 0))

theorem nx_mem {st : Bool} {last : ByteArray} {l : List En} {e : En} (h : nx st last l = some e) : e ∈ l := by
  unfold nx at h
  split at h
  · exact gtr_mem h
  · exact geq_mem h

set_option maxRecDepth 100000 in
set_option maxHeartbeats 2000000 in
theorem step_any (gf gl gt : Nat) (o : Option Addr) (st : Bool) (last : ByteArray) (t : Tr) (w : World) (ht : TO w o t) (hs : SB w gf gl gt o st last) :
    Calls Try.prog 61 #[.pointer (some ⟨gf, 0, none⟩), .pointer (some ⟨gl, 0, none⟩), .pointer (some ⟨gt, 0, none⟩)] w fun x w' => x = .returned (optP (nx st last t.toL)) ∧ SB w' gf gl gt o true (lst last (nx st last t.toL)) ∧ Kept (fun k => k = gf ∨ k = gl) w w' := by
  have hmf : ∀ (fn : Fn) (first cap : Array Value) (w : World), (Instr.makeFunc fn first cap).run Try.prog w = .ok (.func fn first cap) w := fun _ _ _ _ => rfl
  have n1 : gf ≠ gl := by intro e; subst e; have := hs.f; rw [hs.l] at this; cases this
  have n2 : gf ≠ gt := by intro e; subst e; have := hs.f; rw [hs.t] at this; cases this
  have n3 : gl ≠ gt := by intro e; subst e; have := hs.l; rw [Bx, hs.t] at this; cases this
  have n1' : gl ≠ gf := fun e => n1 e.symm
  have hM := fun (e : En) (he : e ∈ t.toL) => ht.at_.mem e.1 e.2.1 e.2.2 he
  have l1 := hp_lt hs.f
  have l2 := hp_lt hs.l
  have l3 := hp_lt hs.t
  have FIN := hid (show ∀ w1, Below w.heap.size w w1 → ∀ q : Option En, SB ((w1.setCell ⟨gf, 0, none⟩ (.func (.func 62) #[.pointer o] #[])).setCell ⟨gl, 0, none⟩ (.string (lst last q))) gf gl gt o true (lst last q) ∧ Kept (fun k => k = gf ∨ k = gl) w ((w1.setCell ⟨gf, 0, none⟩ (.func (.func 62) #[.pointer o] #[])).setCell ⟨gl, 0, none⟩ (.string (lst last q))) from fun w1 hb q => by
    refine ⟨⟨?_, ?_, ?_⟩, (((Kept.ofBelow hb).mono (fun _ _ h => h.elim)).setCell (p := ⟨gf, 0, none⟩) (fun _ => .inl rfl) _).setCell (p := ⟨gl, 0, none⟩) (fun _ => .inr rfl) _⟩
    · exact hp_set (set_block (i := 0) (hp_below hs.f hb l1) _) n1 _
    · exact set_block (i := 0) (hp_set (hp_below hs.l hb l2) n1' _) _
    · exact hp_set (hp_set (hp_below hs.t hb l3) (fun e => n2 e.symm) _) (fun e => n3 e.symm) _)
  have FIN0 := hid (show ∀ w1, Below w.heap.size w w1 → SB (w1.setCell ⟨gf, 0, none⟩ (.func (.func 62) #[.pointer o] #[])) gf gl gt o true last ∧ Kept (fun k => k = gf ∨ k = gl) w (w1.setCell ⟨gf, 0, none⟩ (.func (.func 62) #[.pointer o] #[])) from fun w1 hb => by
    refine ⟨⟨?_, ?_, ?_⟩, ((Kept.ofBelow hb).mono (fun _ _ h => h.elim)).setCell (p := ⟨gf, 0, none⟩) (fun _ => .inl rfl) _⟩
    · exact set_block (i := 0) (hp_below hs.f hb l1) _
    · exact hp_set (hp_below hs.l hb l2) n1' _
    · exact hp_set (hp_below hs.t hb l3) (fun e => n2 e.symm) _)
  have c0 := cells1 hs.f
  have c1 := cells1 hs.l
  have c2 := cells1 hs.t
  have HC := hid (show ∀ w1, Below w.heap.size w w1 → w1.cell? ⟨gf, 0, none⟩ = w.cell? ⟨gf, 0, none⟩ ∧ (∀ j, w1.frozen? ⟨gf, j, none⟩ = false) ∧ w1.cell? ⟨gl, 0, none⟩ = some (.string last) ∧ (∀ j, w1.frozen? ⟨gl, j, none⟩ = false) ∧ w1.cell? ⟨gt, 0, none⟩ = some (.pointer o) from fun w1 hb =>
    ⟨hb.cell (p := ⟨gf, 0, none⟩) l1, fun j => free_of_block (hp_below hs.f hb l1), (hb.cell (p := ⟨gl, 0, none⟩) l2).trans c1, fun j => free_of_block (hp_below hs.l hb l2), (hb.cell (p := ⟨gt, 0, none⟩) l3).trans c2⟩)
  cases st
  · have G := hid (geq_any o last t w ht)
    have e : nx false last t.toL = geqE last t.toL := rfl
    rw [e]
    have c0' : w.cell? ⟨gf, 0, none⟩ = some (.func (.func 59) #[.pointer o] #[]) := c0
    cases hq : geqE last t.toL with
    | none =>
      have G2 := hid (hq ▸ G.out)
      clear hs ht G hq hM c0 e
      go_enter Try.func61, Try.ntmps61
      go_wp2_with (
        go_at_call 59
        refine G2.out.mono ?_
        rintro e w1 ⟨e1, hb⟩
        have e2 : e = .returned (.pointer none) := e1
        subst e2
        obtain ⟨z0, z1, z2, z3, z4⟩ := HC.out w1 hb
        rw [c0'] at z0
        have HB := hid hb
        clear hb e1)
      go_ret
      exact ⟨rfl, FIN0.out w1 HB.out⟩
    | some c =>
      obtain ⟨b, k, v⟩ := c
      have G2 := hid (hq ▸ G.out)
      obtain ⟨p', q', h', nd⟩ := hM (b, k, v) (geq_mem hq)
      have d0 := (cells5 nd).1
      have hbl := hp_lt nd
      have nb : b ≠ gf := by intro e; subst e; have := hs.f; rw [nd] at this; cases this
      have nb' : gf ≠ b := fun e => nb e.symm
      clear hs ht G hq hM c0 e nd
      go_enter Try.func61, Try.ntmps61
      go_wp2_with (
        go_at_call 59
        refine G2.out.mono ?_
        rintro e w1 ⟨e1, hb⟩
        have e2 : e = .returned (.pointer (some ⟨b, 0, none⟩)) := e1
        subst e2
        obtain ⟨z0, z1, z2, z3, z4⟩ := HC.out w1 hb
        rw [c0'] at z0
        have x0 := (hb.cell (p := ⟨b, 0, none⟩) hbl).trans d0
        have HB := hid hb
        clear hb e1)
      go_ret
      exact ⟨rfl, FIN.out w1 HB.out (some (b, k, v))⟩
  · have G := hid (gtr_any o last t w ht)
    have e : nx true last t.toL = gtrE last t.toL := rfl
    rw [e]
    have c0' : w.cell? ⟨gf, 0, none⟩ = some (.func (.func 62) #[.pointer o] #[]) := c0
    cases hq : gtrE last t.toL with
    | none =>
      have G2 := hid (hq ▸ G.out)
      clear hs ht G hq hM c0 e
      go_enter Try.func61, Try.ntmps61
      go_wp2_with (
        go_at_call 62
        refine G2.out.mono ?_
        rintro e w1 ⟨e1, hb⟩
        have e2 : e = .returned (.pointer none) := e1
        subst e2
        obtain ⟨z0, z1, z2, z3, z4⟩ := HC.out w1 hb
        rw [c0'] at z0
        have HB := hid hb
        clear hb e1)
      go_ret
      exact ⟨rfl, FIN0.out w1 HB.out⟩
    | some c =>
      obtain ⟨b, k, v⟩ := c
      have G2 := hid (hq ▸ G.out)
      obtain ⟨p', q', h', nd⟩ := hM (b, k, v) (gtr_mem hq)
      have d0 := (cells5 nd).1
      have hbl := hp_lt nd
      have nb : b ≠ gf := by intro e; subst e; have := hs.f; rw [nd] at this; cases this
      have nb' : gf ≠ b := fun e => nb e.symm
      clear hs ht G hq hM c0 e nd
      go_enter Try.func61, Try.ntmps61
      go_wp2_with (
        go_at_call 62
        refine G2.out.mono ?_
        rintro e w1 ⟨e1, hb⟩
        have e2 : e = .returned (.pointer (some ⟨b, 0, none⟩)) := e1
        subst e2
        obtain ⟨z0, z1, z2, z3, z4⟩ := HC.out w1 hb
        rw [c0'] at z0
        have x0 := (hb.cell (p := ⟨b, 0, none⟩) hbl).trans d0
        have HB := hid hb
        clear hb e1)
      go_ret
      exact ⟨rfl, FIN.out w1 HB.out (some (b, k, v))⟩

theorem two' (w : World) (a b : Obj) : ((w.alloc a).alloc b).heap[w.heap.size]? = some a ∧ ((w.alloc a).alloc b).heap[w.heap.size + 1]? = some b ∧ Below w.heap.size w ((w.alloc a).alloc b) := by
  refine ⟨hp_alloc (hp_new w a) b, ?_, (below_new w a).alloc (by simp) b⟩
  have := hp_new (w.alloc a) b
  simpa using this
theorem three (w : World) (a b c : Obj) : (((w.alloc a).alloc b).alloc c).heap[w.heap.size]? = some a ∧ (((w.alloc a).alloc b).alloc c).heap[w.heap.size + 1]? = some b ∧ (((w.alloc a).alloc b).alloc c).heap[w.heap.size + 1 + 1]? = some c ∧ Below w.heap.size w (((w.alloc a).alloc b).alloc c) := by
  obtain ⟨h1, h2, h3⟩ := two' w a b
  refine ⟨hp_alloc h1 c, hp_alloc h2 c, ?_, h3.alloc (by simp; omega) c⟩
  have := hp_new ((w.alloc a).alloc b) c
  simpa using this

set_option maxRecDepth 100000 in
set_option maxHeartbeats 2000000 in
theorem steps_any (o : Option Addr) (first : ByteArray) (w : World) :
    Calls Try.prog 50 #[.pointer o, .string first] w fun x w' => ∃ gf gl gt, x = .returned (.func (.func 61) #[] #[.pointer (some ⟨gf, 0, none⟩), .pointer (some ⟨gl, 0, none⟩), .pointer (some ⟨gt, 0, none⟩)]) ∧ SB w' gf gl gt o false first ∧ Below w.heap.size w w' ∧ w.heap.size ≤ gf ∧ w.heap.size ≤ gl ∧ w.heap.size ≤ gt := by
  have hmf : ∀ (fn : Fn) (first cap : Array Value) (w : World), (Instr.makeFunc fn first cap).run Try.prog w = .ok (.func fn first cap) w := fun _ _ _ _ => rfl
  go_enter Try.func50, Try.ntmps50
  go_wp2
  go_region
  · obtain ⟨e1, e2, e3, hb⟩ := three w (Obj.cells #[Value.pointer o] 101) (Obj.cells #[Value.string first] 9) (Obj.cells #[Value.func (Fn.func 59) #[Value.pointer o] #[]] 103)
    have HH := hid (And.intro e1 (And.intro e2 (And.intro e3 hb)))
    generalize (((w.alloc (Obj.cells #[Value.pointer o] 101)).alloc (Obj.cells #[Value.string first] 9)).alloc (Obj.cells #[Value.func (Fn.func 59) #[Value.pointer o] #[]] 103)) = W at HH ⊢
    clear e1 e2 e3 hb
    go_wp2
    go_ret
    obtain ⟨e1, e2, e3, hb⟩ := HH.out
    exact ⟨_, _, _, rfl, ⟨e3, e2, e1⟩, hb.drew, by omega, by omega, by omega⟩
  · obtain ⟨e1, e2, e3, hb⟩ := three w (Obj.cells #[Value.pointer o] 101) (Obj.cells #[Value.func (Fn.func 59) #[Value.pointer o] #[]] 103) (Obj.cells #[Value.string first] 9)
    have HH := hid (And.intro e1 (And.intro e2 (And.intro e3 hb)))
    generalize (((w.alloc (Obj.cells #[Value.pointer o] 101)).alloc (Obj.cells #[Value.func (Fn.func 59) #[Value.pointer o] #[]] 103)).alloc (Obj.cells #[Value.string first] 9)) = W at HH ⊢
    clear e1 e2 e3 hb
    go_wp2
    go_ret
    obtain ⟨e1, e2, e3, hb⟩ := HH.out
    exact ⟨_, _, _, rfl, ⟨e2, e3, e1⟩, hb.drew, by omega, by omega, by omega⟩

/-- An iterator's boxes. -/
structure It (w : World) (g1 g2 g3 : Nat) (o : Option Addr) (frm to : ByteArray) : Prop where
  t : w.heap[g1]? = some (.cells #[.pointer o] 101 (0, 0))
  f : Bx w g2 frm
  e : Bx w g3 to

abbrev itV (g1 g2 g3 : Nat) : Value := .func (.func 49) #[] #[.pointer (some ⟨g1, 0, none⟩), .pointer (some ⟨g2, 0, none⟩), .pointer (some ⟨g3, 0, none⟩)]

set_option maxRecDepth 100000 in
set_option maxHeartbeats 2000000 in
theorem range_any (o : Option Addr) (frm to : ByteArray) (w : World) (h1 : frm.size ≤ 281474976710656) (h2 : to.size ≤ 281474976710656) :
    Calls Try.prog 31 #[.pointer o, .string frm, .string to] w fun x w' => ∃ g1 g2 g3, x = .returned (itV g1 g2 g3) ∧ It w' g1 g2 g3 o frm to ∧ Below w.heap.size w w' ∧ w.heap.size ≤ g1 ∧ w.heap.size ≤ g2 ∧ w.heap.size ≤ g3 := by
  have hmf : ∀ (fn : Fn) (first cap : Array Value) (w : World), (Instr.makeFunc fn first cap).run Try.prog w = .ok (.func fn first cap) w := fun _ _ _ _ => rfl
  have C1 := hid (fun W => clone_any frm W h1)
  have C2 := hid (fun W => clone_any to W h2)
  clear h1 h2
  go_enter Try.func31, Try.ntmps31
  go_wp2_with (first
    | (go_at_call 42
       refine (C1.out (w.alloc (.cells #[.pointer o] 101))).mono ?_
       rintro e w1 ⟨rfl, hb⟩
       have H1 := hid hb
       clear hb C1)
    | (go_at_call 42
       refine (C2.out w1).mono ?_
       rintro e w2 ⟨rfl, hb⟩
       have H2 := hid hb
       clear hb C2))
  go_ret
  have b1 := below_on (below_new w (.cells #[.pointer o] 101)) H1.out
  have b2 := below_on b1 H2.out
  obtain ⟨e1, e2, hb⟩ := two' w2 (Obj.cells #[Value.string frm] 9) (Obj.cells #[Value.string to] 9)
  have hs := b2.size
  refine ⟨_, _, _, rfl, ⟨?_, e1, e2⟩, below_on b2 hb, Nat.le_refl _, by omega, by omega⟩
  have t1 := hp_new w (.cells #[.pointer o] 101)
  have t2 := hp_below t1 H1.out (hp_lt t1)
  have t3 := hp_below t2 H2.out (hp_lt t2)
  exact hp_below t3 hb (hp_lt t3)

end Go.Proofs.Ythjggbcppgbdoab

namespace Go.Proofs.Ythjggbcppgbdoab
open Go.RowKit

theorem least_ex {R : Nat → Prop} : ∀ m, R m → ∃ k, R k ∧ ∀ j, R j → k ≤ j := by
  intro m
  induction m using Nat.strongRecOn with
  | ind m ih =>
    intro hm
    by_cases h : ∃ j, j < m ∧ R j
    · obtain ⟨j, hj, hr⟩ := h
      exact ih j hj hr
    · exact ⟨m, hm, fun j hj => by
        rcases Nat.lt_or_ge j m with h1 | h1
        · exact absurd ⟨j, h1, hj⟩ h
        · exact h1⟩
/-- The least number of a property. -/
theorem eps_spec {R : Nat → Prop} (h : ∃ m, R m) : R (Classical.epsilon (fun m => R m ∧ ∀ j, R j → m ≤ j)) ∧ ∀ j, R j → Classical.epsilon (fun m => R m ∧ ∀ j, R j → m ≤ j) ≤ j := by
  obtain ⟨m, hm⟩ := h
  exact Classical.epsilon_spec (p := fun m => R m ∧ ∀ j, R j → m ≤ j) (least_ex m hm)

/-- What the loop's body must leave alone: the iterator's own boxes. -/
def Boxed (N : Nat) (w w' : World) : Prop := ∀ k cs ty, N ≤ k → w.heap[k]? = some (.cells cs ty (0, 0)) → (ty = 9 ∨ ty = 101 ∨ ty = 103) → w'.heap[k]? = some (.cells cs ty (0, 0))

/-- A loop's body, and what holds between the steps. I m st last t w: m bounds the steps that are left. -/
structure Body (N : Nat) (o : Option Addr) (frm to : ByteArray) (g1 g2 g3 : Nat) (Y : Nat) (caps : List Value) (I : Nat → Bool → ByteArray → Tr → World → Prop) (J : World → Prop) : Prop where
  tb : ∀ {m st last t w}, I m st last t w → TO w o t ∧ Short t
  it : ∀ {m st last t w}, I m st last t w → It w g1 g2 g3 o frm to
  nn : ∀ {m st last t w}, I m st last t w → N ≤ w.heap.size
  keep : ∀ {m st last t w w' S}, I m st last t w → Kept S w w' → (∀ k, S k → N ≤ k ∧ ∃ cs ty, w.heap[k]? = some (.cells cs ty (0, 0)) ∧ (ty = 9 ∨ ty = 101 ∨ ty = 103)) → I m st last t w'
  run : ∀ {m st last t w b k v}, I m st last t w → nx st last t.toL = some (b, k, v) → (to = ⟨#[]⟩ ∨ kl to k = false) →
    Calls Try.prog Y ([.string k, v] ++ caps).toArray w fun e w' => ∃ r, e = .returned (.bool r) ∧ Boxed N w w' ∧ (r = true → ∃ m' t', m' < m ∧ I m' true k t' w') ∧ (r = false → J w')

/-- Nothing more is to be handed on. -/
def Ended (to : ByteArray) (st : Bool) (last : ByteArray) (l : List En) : Prop := ∀ b k v, nx st last l = some (b, k, v) → to ≠ ⟨#[]⟩ ∧ kl to k = true

def IterP (to : ByteArray) (I : Nat → Bool → ByteArray → Tr → World → Prop) (J : World → Prop) : Ending → World → Prop :=
  fun e w' => e = .returned (.tuple #[]) ∧ ((∃ m st last t, I m st last t w' ∧ Ended to st last t.toL) ∨ J w')

/-- At the loop's head, behind a step. -/
structure Hd (o : Option Addr) (gf gl gt : Nat) (I : Nat → Bool → ByteArray → Tr → World → Prop) (m : Nat) (i : Value) (w : World) (st : Bool) (last : ByteArray) (t : Tr) : Prop where
  i_ : I m st last t w
  n_ : i = optP (nx st last t.toL)
  sb : SB w gf gl gt o true (lst last (nx st last t.toL))

theorem Boxed.sb {N : Nat} {w w' : World} {gf gl gt : Nat} {o : Option Addr} {st : Bool} {last : ByteArray} (h : Boxed N w w') (hs : SB w gf gl gt o st last) (h1 : N ≤ gf) (h2 : N ≤ gl) (h3 : N ≤ gt) : SB w' gf gl gt o st last :=
  ⟨h _ _ _ h1 hs.f (by simp), h _ _ _ h2 hs.l (by simp), h _ _ _ h3 hs.t (by simp)⟩

theorem keep_below {N : Nat} {o : Option Addr} {frm to : ByteArray} {g1 g2 g3 Y : Nat} {caps : List Value} {I : Nat → Bool → ByteArray → Tr → World → Prop} {J : World → Prop} (H : Body N o frm to g1 g2 g3 Y caps I J) {m : Nat} {st : Bool} {last : ByteArray} {t : Tr} {w w' : World} (h : I m st last t w) (hb : Below w.heap.size w w') : I m st last t w' :=
  H.keep h (Kept.ofBelow hb) (fun _ e => e.elim)

/-- A step between two rounds. -/
theorem step_on {N : Nat} {o : Option Addr} {frm to : ByteArray} {g1 g2 g3 Y : Nat} {caps : List Value} {I : Nat → Bool → ByteArray → Tr → World → Prop} {J : World → Prop} (H : Body N o frm to g1 g2 g3 Y caps I J) {m gf gl gt : Nat} {st : Bool} {last : ByteArray} {t : Tr} {w : World} (h : I m st last t w) (hs : SB w gf gl gt o st last) (h1 : N ≤ gf) (h2 : N ≤ gl) :
    Calls Try.prog 61 #[.pointer (some ⟨gf, 0, none⟩), .pointer (some ⟨gl, 0, none⟩), .pointer (some ⟨gt, 0, none⟩)] w fun x w' => x = .returned (optP (nx st last t.toL)) ∧ Hd o gf gl gt I m (optP (nx st last t.toL)) w' st last t := by
  refine (step_any gf gl gt o st last t w (H.tb h).1 hs).mono ?_
  rintro x w' ⟨rfl, hs', hk⟩
  refine ⟨rfl, H.keep h hk ?_, rfl, hs'⟩
  rintro k (rfl | rfl)
  · exact ⟨h1, _, _, hs.f, by simp⟩
  · exact ⟨h2, _, _, hs.l, by simp⟩

/-- m steps are left at the most. -/
def RR (o : Option Addr) (gf gl gt : Nat) (I : Nat → Bool → ByteArray → Tr → World → Prop) (i : Value) (w : World) (m : Nat) : Prop := ∃ st last t, Hd o gf gl gt I m i w st last t

theorem leq_eq (a b : ByteArray) : (Op.bytesLess a.toList b.toList || (a.toList == b.toList)) = !kl b a := by
  rw [← gtr_eq a b]
  cases Op.bytesLess a.toList b.toList <;> cases (a.toList == b.toList) <;> rfl

theorem emp_eq {s : ByteArray} (h : s = ⟨#[]⟩) : (s.toList == []) = true := by subst h; simp [Lib.toList_data]
theorem emp_ne {s : ByteArray} (h : s ≠ ⟨#[]⟩) : (s.toList == []) = false := by
  have := keq_false h
  rw [show (⟨#[]⟩ : ByteArray).toList = [] by simp [Lib.toList_data]] at this
  exact this

theorem sbBelow {w w' : World} {gf gl gt : Nat} {o : Option Addr} {st : Bool} {last : ByteArray} (hs : SB w gf gl gt o st last) (hb : Below w.heap.size w w') : SB w' gf gl gt o st last :=
  ⟨hp_below hs.f hb (hp_lt hs.f), hp_below hs.l hb (hp_lt hs.l), hp_below hs.t hb (hp_lt hs.t)⟩

end Go.Proofs.Ythjggbcppgbdoab

namespace Go.Proofs.Ythjggbcppgbdoab
open Go.RowKit

/-- The iterator's own boxes are as they were. -/
def BoxedX (gf gl gt : Nat) (w w' : World) : Prop := w'.heap[gf]? = w.heap[gf]? ∧ w'.heap[gl]? = w.heap[gl]? ∧ w'.heap[gt]? = w.heap[gt]?

/-- A loop's body, and what holds between the steps; the iterator's own boxes are told. -/
structure BodyX (o : Option Addr) (frm to : ByteArray) (g1 g2 g3 : Nat) (Y : Nat) (caps : List Value) (I : Nat → Nat → Nat → Nat → Bool → ByteArray → Tr → World → Prop) (J : World → Prop) : Prop where
  tb : ∀ {gf gl gt m st last t w}, I gf gl gt m st last t w → TO w o t ∧ Short t
  it : ∀ {gf gl gt m st last t w}, I gf gl gt m st last t w → It w g1 g2 g3 o frm to
  keep : ∀ {gf gl gt m st last t w w' S}, I gf gl gt m st last t w → Kept S w w' → (∀ k, S k → k = gf ∨ k = gl ∨ k = gt) → I gf gl gt m st last t w'
  run : ∀ {gf gl gt m st last t w b k v}, I gf gl gt m st last t w → nx st last t.toL = some (b, k, v) → (to = ⟨#[]⟩ ∨ kl to k = false) →
    Calls Try.prog Y ([.string k, v] ++ caps).toArray w fun e w' => ∃ r, e = .returned (.bool r) ∧ BoxedX gf gl gt w w' ∧ (r = true → ∃ m' t', m' < m ∧ I gf gl gt m' true k t' w') ∧ (r = false → J w')

def IterPX (to : ByteArray) (I : Nat → Nat → Nat → Nat → Bool → ByteArray → Tr → World → Prop) (J : World → Prop) : Ending → World → Prop :=
  fun e w' => e = .returned (.tuple #[]) ∧ ((∃ gf gl gt m st last t, I gf gl gt m st last t w' ∧ Ended to st last t.toL) ∨ J w')

theorem BoxedX.sb {w w' : World} {gf gl gt : Nat} {o : Option Addr} {st : Bool} {last : ByteArray} (h : BoxedX gf gl gt w w') (hs : SB w gf gl gt o st last) : SB w' gf gl gt o st last :=
  ⟨h.1.trans hs.f, h.2.1.trans hs.l, h.2.2.trans hs.t⟩

theorem keep_belowX {o : Option Addr} {frm to : ByteArray} {g1 g2 g3 Y : Nat} {caps : List Value} {I : Nat → Nat → Nat → Nat → Bool → ByteArray → Tr → World → Prop} {J : World → Prop} (H : BodyX o frm to g1 g2 g3 Y caps I J) {gf gl gt m : Nat} {st : Bool} {last : ByteArray} {t : Tr} {w w' : World} (h : I gf gl gt m st last t w) (hb : Below w.heap.size w w') : I gf gl gt m st last t w' :=
  H.keep h (Kept.ofBelow hb) (fun _ e => e.elim)

/-- A step between two rounds. -/
theorem step_onX {o : Option Addr} {frm to : ByteArray} {g1 g2 g3 Y : Nat} {caps : List Value} {I : Nat → Nat → Nat → Nat → Bool → ByteArray → Tr → World → Prop} {J : World → Prop} (H : BodyX o frm to g1 g2 g3 Y caps I J) {m gf gl gt : Nat} {st : Bool} {last : ByteArray} {t : Tr} {w : World} (h : I gf gl gt m st last t w) (hs : SB w gf gl gt o st last) :
    Calls Try.prog 61 #[.pointer (some ⟨gf, 0, none⟩), .pointer (some ⟨gl, 0, none⟩), .pointer (some ⟨gt, 0, none⟩)] w fun x w' => x = .returned (optP (nx st last t.toL)) ∧ Hd o gf gl gt (I gf gl gt) m (optP (nx st last t.toL)) w' st last t := by
  refine (step_any gf gl gt o st last t w (H.tb h).1 hs).mono ?_
  rintro x w' ⟨rfl, hs', hk⟩
  refine ⟨rfl, H.keep h hk ?_, rfl, hs'⟩
  rintro k (rfl | rfl)
  · exact .inl rfl
  · exact .inr (.inl rfl)

end Go.Proofs.Ythjggbcppgbdoab

namespace Go.Proofs.Ythjggbcppgbdoab
open Go.RowKit

/-- A loop's body at the yield of loop l, and what holds between the steps; the iterator's own boxes are told. -/
structure BodyY (l : Nat) (o : Option Addr) (frm to : ByteArray) (g1 g2 g3 : Nat) (I : Nat → Nat → Nat → Nat → Bool → ByteArray → Tr → World → Prop) (J : World → Prop) : Prop where
  tb : ∀ {gf gl gt m st last t w}, I gf gl gt m st last t w → TO w o t ∧ Short t
  it : ∀ {gf gl gt m st last t w}, I gf gl gt m st last t w → It w g1 g2 g3 o frm to
  keep : ∀ {gf gl gt m st last t w w' S}, I gf gl gt m st last t w → Kept S w w' → (∀ k, S k → k = gf ∨ k = gl ∨ k = gt) → I gf gl gt m st last t w'
  run : ∀ {gf gl gt m st last t w b k v}, I gf gl gt m st last t w → nx st last t.toL = some (b, k, v) → (to = ⟨#[]⟩ ∨ kl to k = false) →
    ∀ n, YieldAt Fence.wide n Try.prog l #[.string k, v] w fun e w' => ∃ r, e = .returned (.bool r) ∧ BoxedX gf gl gt w w' ∧ (r = true → ∃ m' t', m' < m ∧ I gf gl gt m' true k t' w') ∧ (r = false → J w')

theorem keep_belowY {l : Nat} {o : Option Addr} {frm to : ByteArray} {g1 g2 g3 : Nat} {I : Nat → Nat → Nat → Nat → Bool → ByteArray → Tr → World → Prop} {J : World → Prop} (H : BodyY l o frm to g1 g2 g3 I J) {gf gl gt m : Nat} {st : Bool} {last : ByteArray} {t : Tr} {w w' : World} (h : I gf gl gt m st last t w) (hb : Below w.heap.size w w') : I gf gl gt m st last t w' :=
  H.keep h (Kept.ofBelow hb) (fun _ e => e.elim)

/-- A step between two rounds. -/
theorem step_onY {l : Nat} {o : Option Addr} {frm to : ByteArray} {g1 g2 g3 : Nat} {I : Nat → Nat → Nat → Nat → Bool → ByteArray → Tr → World → Prop} {J : World → Prop} (H : BodyY l o frm to g1 g2 g3 I J) {m gf gl gt : Nat} {st : Bool} {last : ByteArray} {t : Tr} {w : World} (h : I gf gl gt m st last t w) (hs : SB w gf gl gt o st last) :
    Calls Try.prog 61 #[.pointer (some ⟨gf, 0, none⟩), .pointer (some ⟨gl, 0, none⟩), .pointer (some ⟨gt, 0, none⟩)] w fun x w' => x = .returned (optP (nx st last t.toL)) ∧ Hd o gf gl gt (I gf gl gt) m (optP (nx st last t.toL)) w' st last t := by
  refine (step_any gf gl gt o st last t w (H.tb h).1 hs).mono ?_
  rintro x w' ⟨rfl, hs', hk⟩
  refine ⟨rfl, H.keep h hk ?_, rfl, hs'⟩
  rintro k (rfl | rfl)
  · exact .inl rfl
  · exact .inr (.inl rfl)

theorem mixed : Try.prog.follows .mixedOrders = true := by kernel_rfl

set_option maxRecDepth 100000 in
set_option maxHeartbeats 8000000 in
theorem iterY (l : Nat) {o : Option Addr} {frm to : ByteArray} {g1 g2 g3 : Nat} {I : Nat → Nat → Nat → Nat → Bool → ByteArray → Tr → World → Prop} {J : World → Prop} (H : BodyY l o frm to g1 g2 g3 I J) (m : Nat) (t : Tr) (w : World) (h : ∀ gf gl gt w1, Below w.heap.size w w1 → w.heap.size ≤ gf → w.heap.size ≤ gl → w.heap.size ≤ gt → SB w1 gf gl gt o false frm → I gf gl gt m false frm t w1) (hi : It w g1 g2 g3 o frm to) :
    Calls Try.prog 49 #[.func (.yield l) #[] #[], .pointer (some ⟨g1, 0, none⟩), .pointer (some ⟨g2, 0, none⟩), .pointer (some ⟨g3, 0, none⟩)] w (IterPX to I J) := by
  have c1 := cells1 hi.t
  have c2 := cells1 hi.f
  have S1 := hid (show Calls Try.prog 50 #[.pointer o, .string frm] w fun x w' => ∃ gf gl gt, x = .returned (.func (.func 61) #[] #[.pointer (some ⟨gf, 0, none⟩), .pointer (some ⟨gl, 0, none⟩), .pointer (some ⟨gt, 0, none⟩)]) ∧ Hid (SB w' gf gl gt o false frm ∧ I gf gl gt m false frm t w') from by
    refine (steps_any o frm w).mono ?_
    rintro x w' ⟨gf, gl, gt, rfl, hs, hb, q1, q2, q3⟩
    exact ⟨gf, gl, gt, rfl, hid ⟨hs, h gf gl gt w' hb (by omega) (by omega) (by omega) hs⟩⟩)
  have HH := hid H
  have hmx := mixed
  generalize hP : IterPX to I J = P
  have HP := hid hP
  clear hP h hi H
  go_enter Try.func49, Try.ntmps49
  go_wp2_with (first
    | (go_at_call 50
       refine S1.out.mono ?_
       rintro e w1 ⟨gf, gl, gt, rfl, N1⟩
       have S2 := hid (step_onY HH.out N1.out.2 N1.out.1)
       clear S1)
    | (go_at_call 61
       refine S2.out.mono ?_
       rintro e w2 ⟨rfl, hd⟩
       have N2 := hid hd
       clear hd S2))
  go_loopw [6] (fun i wr => ∃ m, Hid (RR o gf gl gt (I gf gl gt) i wr m)) (fun i wr => Classical.epsilon (fun m => RR o gf gl gt (I gf gl gt) i wr m ∧ ∀ j, RR o gf gl gt (I gf gl gt) i wr j → m ≤ j))
  case atStart => exact ⟨m, hid ⟨_, _, _, N2.out⟩⟩
  case round =>
    obtain ⟨m0, h0⟩ := hrel
    have hsp := eps_spec ⟨m0, h0.out⟩
    generalize hmm : Classical.epsilon (fun m => RR o gf gl gt (I gf gl gt) _ wr m ∧ ∀ j, RR o gf gl gt (I gf gl gt) _ wr j → m ≤ j) = mm at hsp ⊢
    have HMM := hid hmm
    obtain ⟨⟨st, last, t1, hd0⟩, -⟩ := hsp
    have hd := hid hd0
    have e0 := hd0.n_
    clear hd0 h0 N2 hmm
    cases hq : nx st last t1.toL with
    | none =>
      rw [hq] at e0
      have e1 : _ = Value.pointer none := e0
      subst e1
      have HQ := hid hq
      clear hq e0
      go_wp2_with fail
      go_quiet (fail)
      go_wp2
      go_end0
      rw [← HP.out]
      refine ⟨rfl, .inl ⟨gf, gl, gt, mm, st, last, t1, keep_belowY HH.out hd.out.i_ (blw_drewN (Below.refl _ _)), ?_⟩⟩
      intro b k v e
      rw [HQ.out] at e
      cases e
    | some c =>
      obtain ⟨b, k, v⟩ := c
      rw [hq] at e0
      have e1 : _ = Value.pointer (some ⟨b, 0, none⟩) := e0
      subst e1
      have HQ := hid hq
      obtain ⟨p', q', h', nd⟩ := (HH.out.tb hd.out.i_).1.at_.mem b k v (nx_mem hq)
      have d0 := (cells5 nd).1
      have d1 := (cells5 nd).2.1
      have hbl := hp_lt nd
      have c3 := cells1 (HH.out.it hd.out.i_).e
      have CL := hid (fun W => clone_any k W ((HH.out.tb hd.out.i_).2 _ (nx_mem hq)))
      have SBB := hid (show SB wr gf gl gt o true k from by have h5 := hd.out.sb; rw [hq] at h5; exact h5)
      clear hq e0 nd
      by_cases ht : to = ⟨#[]⟩
      · have b0 := emp_eq ht
        have HT := hid ht
        clear ht
        go_wp2_with fail
        go_quiet (fail)
        have BB := hid (show Below wr.heap.size wr (wr.drewN nq) from blw_drewN (Below.refl _ _))
        generalize wr.drewN nq = W3 at BB ⊢
        have d0' := (BB.out.cell (p := ⟨b, 0, none⟩) hbl).trans d0
        have d1' := (BB.out.cell (p := ⟨b, 1, none⟩) hbl).trans d1
        go_wp2_with fail
        refine (wpIn_wide (n := 5)).1 ?_
        gi_region_with_o (first
          | (refine ⟨trivial, ?_⟩
             gi_at_call 42
             refine (callsIn_wide.2 (CL.out _)).mono ?_
             rintro e w4 ⟨rfl, hb⟩
             have hb4 := below_on BB.out (undrew hb)
             have f0 := (hb4.cell (p := ⟨b, 0, none⟩) hbl).trans d0
             have f1 := (hb4.cell (p := ⟨b, 1, none⟩) hbl).trans d1
             have B4 := hid hb4
             obtain ⟨fn, tmps, assign, body, hy, hR⟩ := HH.out.run (keep_belowY HH.out hd.out.i_ B4.out) HQ.out (.inl HT.out) 4
             have HR := hid hR
             clear hb hb4 hR)
          | (refine HR.out.mono ?_
             rintro e w5 ⟨r, rfl, hbx, ht, hf⟩
             have N5 := hid (And.intro hbx (And.intro ht hf))
             clear hbx ht hf))
        all_goals
          cases r
          · have J5 := hid (N5.out.2.2 rfl)
            clear N5
            go_wp2
            go_end0
            rw [← HP.out]
            exact ⟨rfl, .inr J5.out⟩
          · obtain ⟨m', t', hlt, hI⟩ := N5.out.2.1 rfl
            have S5 := hid (step_onY HH.out hI (N5.out.1.sb (sbBelow SBB.out B4.out)))
            have HLT := hid hlt
            clear hI hlt
            go_wp2_with (
              go_at_call 61
              refine S5.out.mono ?_
              rintro e w6 ⟨rfl, hd6⟩
              have N6 := hid hd6
              clear hd6 S5)
            go_roundw
            case rel => exact ⟨m', hid ⟨_, _, _, N6.out⟩⟩
            case measure =>
              exact Nat.lt_of_le_of_lt ((eps_spec (R := RR o gf gl gt (I gf gl gt) _ w6) ⟨m', _, _, _, N6.out⟩).2 m' ⟨_, _, _, N6.out⟩) (Nat.lt_of_lt_of_eq HLT.out HMM.out.symm)
      · have b0 := emp_ne ht
        have b1 := leq_eq k to
        cases hk : kl to k
        · rw [hk] at b1
          have HT := hid hk
          have b1' : (Op.bytesLess k.toList to.toList || (k.toList == to.toList)) = true := b1
          clear ht hk b1
          go_wp2_with fail
          go_quiet (fail)
          have BB := hid (show Below wr.heap.size wr (wr.drewN nq) from blw_drewN (Below.refl _ _))
          generalize wr.drewN nq = W3 at BB ⊢
          have d0' := (BB.out.cell (p := ⟨b, 0, none⟩) hbl).trans d0
          have d1' := (BB.out.cell (p := ⟨b, 1, none⟩) hbl).trans d1
          go_wp2_with fail
          refine (wpIn_wide (n := 5)).1 ?_
          gi_region_with_o (first
            | (refine ⟨trivial, ?_⟩
               gi_at_call 42
               refine (callsIn_wide.2 (CL.out _)).mono ?_
               rintro e w4 ⟨rfl, hb⟩
               have hb4 := below_on BB.out (undrew hb)
               have f0 := (hb4.cell (p := ⟨b, 0, none⟩) hbl).trans d0
               have f1 := (hb4.cell (p := ⟨b, 1, none⟩) hbl).trans d1
               have B4 := hid hb4
               obtain ⟨fn, tmps, assign, body, hy, hR⟩ := HH.out.run (keep_belowY HH.out hd.out.i_ B4.out) HQ.out (.inr HT.out) 4
               have HR := hid hR
               clear hb hb4 hR)
            | (refine HR.out.mono ?_
               rintro e w5 ⟨r, rfl, hbx, ht, hf⟩
               have N5 := hid (And.intro hbx (And.intro ht hf))
               clear hbx ht hf))
          all_goals
            cases r
            · have J5 := hid (N5.out.2.2 rfl)
              clear N5
              go_wp2
              go_end0
              rw [← HP.out]
              exact ⟨rfl, .inr J5.out⟩
            · obtain ⟨m', t', hlt, hI⟩ := N5.out.2.1 rfl
              have S5 := hid (step_onY HH.out hI (N5.out.1.sb (sbBelow SBB.out B4.out)))
              have HLT := hid hlt
              clear hI hlt
              go_wp2_with (
                go_at_call 61
                refine S5.out.mono ?_
                rintro e w6 ⟨rfl, hd6⟩
                have N6 := hid hd6
                clear hd6 S5)
              go_roundw
              case rel => exact ⟨m', hid ⟨_, _, _, N6.out⟩⟩
              case measure =>
                exact Nat.lt_of_le_of_lt ((eps_spec (R := RR o gf gl gt (I gf gl gt) _ w6) ⟨m', _, _, _, N6.out⟩).2 m' ⟨_, _, _, N6.out⟩) (Nat.lt_of_lt_of_eq HLT.out HMM.out.symm)
        · rw [hk] at b1
          have HT := hid (And.intro ht hk)
          have b1' : (Op.bytesLess k.toList to.toList || (k.toList == to.toList)) = false := b1
          clear ht hk b1
          go_wp2_with fail
          go_quiet (fail)
          go_wp2
          go_end0
          rw [← HP.out]
          refine ⟨rfl, .inl ⟨gf, gl, gt, mm, st, last, t1, keep_belowY HH.out hd.out.i_ (blw_drewN (Below.refl _ _)), ?_⟩⟩
          intro b' k' v' e
          rw [HQ.out] at e
          injection e with e
          injection e with e1 e2
          injection e2 with e2 e3
          subst e2
          exact HT.out

end Go.Proofs.Ythjggbcppgbdoab

namespace Go.Proofs.Ythjggbcppgbdoab
open Go.RowKit

/-- A slot as plain data. -/
structure Sd where
  c0 : Int
  c1 : Int
  h0 : Bool
  h1 : Bool
  r : Bool
  w : Bool

def bit (b : Bool) : Int := if b then 1 else 0
def Sd.cells (s : Sd) : Array Value := #[.int .i64 s.c0, .int .i64 s.c1, .bool s.h0, .bool s.h1, .int .i64 (bit s.r), .int .i64 (bit s.w)]
/-- What a copy has. -/
def Sd.copy (s : Sd) (b : Bool) : Int := if b then s.c1 else s.c0
def Sd.has (s : Sd) (b : Bool) : Bool := if b then s.h1 else s.h0
/-- The copy that is written is laid, and it is the one that is read. -/
def Sd.lay (s : Sd) (v : Int) (h : Bool) : Sd := if s.w then ⟨s.c0, v, s.h0, h, true, true⟩ else ⟨v, s.c1, h, s.h1, false, false⟩
abbrev Sl (w : World) (b : Nat) (s : Sd) : Prop := w.heap[b]? = some (.cells s.cells 42 (0, 0))

theorem cells6 {w : World} {p : Nat} {a b c d e f : Value} {t : TypeId} (h : w.heap[p]? = some (.cells #[a, b, c, d, e, f] t (0, 0))) : w.cell? ⟨p, 0, none⟩ = some a ∧ w.cell? ⟨p, 1, none⟩ = some b ∧ w.cell? ⟨p, 2, none⟩ = some c ∧ w.cell? ⟨p, 3, none⟩ = some d ∧ w.cell? ⟨p, 4, none⟩ = some e ∧ w.cell? ⟨p, 5, none⟩ = some f := by
  refine ⟨?_, ?_, ?_, ?_, ?_, ?_⟩ <;> (rw [cell_of_row w p _ _ _ _ h]; rfl)

set_option maxRecDepth 100000 in
set_option maxHeartbeats 2000000 in
theorem read_any (b : Nat) (s : Sd) (w : World) (h : Sl w b s) : Calls Try.prog 28 #[.pointer (some ⟨b, 0, none⟩)] w fun x w' => x = .returned (.tuple #[.int .i64 (s.copy s.r), .bool (s.has s.r)]) ∧ ∃ n, w' = w.drewN n := by
  obtain ⟨c0, c1, h0, h1, r, wb⟩ := s
  obtain ⟨d0, d1, d2, d3, d4, d5⟩ := cells6 h
  clear h
  cases r
  · simp only [bit, Bool.false_eq_true, if_false] at d4
    go_enter Try.func28, Try.ntmps28
    go_wp2_with fail
    go_quiet (fail)
    go_wp2
    go_ret2
    exact ⟨rfl, _, rfl⟩
  · simp only [bit, if_true] at d4
    go_enter Try.func28, Try.ntmps28
    go_wp2_with fail
    go_quiet (fail)
    go_wp2
    go_ret2
    exact ⟨rfl, _, rfl⟩

set_option maxRecDepth 100000 in
set_option maxHeartbeats 800000 in
theorem other_any (b : Bool) (w : World) : Calls Try.prog 25 #[.int .i64 (bit b)] w fun x w' => x = .returned (.int .i64 (bit (!b))) ∧ w' = w := by
  cases b
  · simp only [bit, Bool.false_eq_true, if_false, Bool.not_false, if_true]
    go_enter Try.func25, Try.ntmps25
    go_wp2
    go_ret
    exact ⟨rfl, rfl⟩
  · simp only [bit, if_true, Bool.not_true, Bool.false_eq_true, if_false]
    go_enter Try.func25, Try.ntmps25
    go_wp2
    go_ret
    exact ⟨rfl, rfl⟩

end Go.Proofs.Ythjggbcppgbdoab
