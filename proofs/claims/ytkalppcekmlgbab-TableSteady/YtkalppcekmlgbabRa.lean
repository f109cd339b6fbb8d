import Derived.Test.YtkalppcekmlgbabKn
import Derived.Laws.EntriesVeiled
namespace Go.Proofs.Ytkalppcekmlgbab
open Go.RowKit

/-- The next one: at or above from, then above the last one. -/
def nx (st : Bool) (last : ByteArray) (l : List En) : Option En := if st then gtrE last l else geqE last l
def lst (last : ByteArray) : Option En → ByteArray
  | none => last
  | some e => e.2.1

/-- A step function's boxes. -/
structure SB (w : World) (gf gl gt : Nat) (o : Option Addr) (st : Bool) (last : ByteArray) : Prop where
  f : w.heap[gf]? = some (.cells #[.func (.func (if st then 48 else 55)) #[.pointer o] #[]] 91 (0, 0))
  l : Bx w gl last
  t : w.heap[gt]? = some (.cells #[.pointer o] 49 (0, 0))

theorem nx_mem {st : Bool} {last : ByteArray} {l : List En} {e : En} (h : nx st last l = some e) : e ∈ l := by
  unfold nx at h
  split at h
  · exact gtr_mem h
  · exact geq_mem h

set_option maxRecDepth 100000 in
set_option maxHeartbeats 2000000 in
theorem step_any (gf gl gt : Nat) (o : Option Addr) (st : Bool) (last : ByteArray) (t : Tr) (w : World) (ht : TO w o t) (hs : SB w gf gl gt o st last) :
    Calls Try.prog 57 #[.pointer (some ⟨gf, 0, none⟩), .pointer (some ⟨gl, 0, none⟩), .pointer (some ⟨gt, 0, none⟩)] w fun x w' => x = .returned (optP (nx st last t.toL)) ∧ SB w' gf gl gt o true (lst last (nx st last t.toL)) ∧ Kept (fun k => k = gf ∨ k = gl) w w' := by
  have hmf : ∀ (fn : Fn) (first cap : Array Value) (w : World), (Instr.makeFunc fn first cap).run Try.prog w = .ok (.func fn first cap) w := fun _ _ _ _ => rfl
  have n1 : gf ≠ gl := by intro e; subst e; have := hs.f; rw [hs.l] at this; cases this
  have n2 : gf ≠ gt := by intro e; subst e; have := hs.f; rw [hs.t] at this; cases this
  have n3 : gl ≠ gt := by intro e; subst e; have := hs.l; rw [Bx, hs.t] at this; cases this
  have n1' : gl ≠ gf := fun e => n1 e.symm
  have hM := fun (e : En) (he : e ∈ t.toL) => ht.at_.mem e.1 e.2.1 e.2.2 he
  have l1 := hp_lt hs.f
  have l2 := hp_lt hs.l
  have l3 := hp_lt hs.t
  have FIN := hid (show ∀ w1, Below w.heap.size w w1 → ∀ q : Option En, SB ((w1.setCell ⟨gf, 0, none⟩ (.func (.func 48) #[.pointer o] #[])).setCell ⟨gl, 0, none⟩ (.string (lst last q))) gf gl gt o true (lst last q) ∧ Kept (fun k => k = gf ∨ k = gl) w ((w1.setCell ⟨gf, 0, none⟩ (.func (.func 48) #[.pointer o] #[])).setCell ⟨gl, 0, none⟩ (.string (lst last q))) from fun w1 hb q => by
    refine ⟨⟨?_, ?_, ?_⟩, (((Kept.ofBelow hb).mono (fun _ _ h => h.elim)).setCell (p := ⟨gf, 0, none⟩) (fun _ => .inl rfl) _).setCell (p := ⟨gl, 0, none⟩) (fun _ => .inr rfl) _⟩
    · exact hp_set (set_block (i := 0) (hp_below hs.f hb l1) _) n1 _
    · exact set_block (i := 0) (hp_set (hp_below hs.l hb l2) n1' _) _
    · exact hp_set (hp_set (hp_below hs.t hb l3) (fun e => n2 e.symm) _) (fun e => n3 e.symm) _)
  have FIN0 := hid (show ∀ w1, Below w.heap.size w w1 → SB (w1.setCell ⟨gf, 0, none⟩ (.func (.func 48) #[.pointer o] #[])) gf gl gt o true last ∧ Kept (fun k => k = gf ∨ k = gl) w (w1.setCell ⟨gf, 0, none⟩ (.func (.func 48) #[.pointer o] #[])) from fun w1 hb => by
    refine ⟨⟨?_, ?_, ?_⟩, ((Kept.ofBelow hb).mono (fun _ _ h => h.elim)).setCell (p := ⟨gf, 0, none⟩) (fun _ => .inl rfl) _⟩
    · exact set_block (i := 0) (hp_below hs.f hb l1) _
    · exact hp_set (hp_below hs.l hb l2) n1' _
    · exact hp_set (hp_below hs.t hb l3) (fun e => n2 e.symm) _)
  have c0 := cells1 hs.f
  have c1 := cells1 hs.l
  have c2 := cells1 hs.t
  have HC := hid (show ∀ w1, Below w.heap.size w w1 → w1.cell? ⟨gf, 0, none⟩ = w.cell? ⟨gf, 0, none⟩ ∧ (∀ j, w1.frozen? ⟨gf, j, none⟩ = false) ∧ w1.cell? ⟨gl, 0, none⟩ = some (.string last) ∧ (∀ j, w1.frozen? ⟨gl, j, none⟩ = false) ∧ w1.cell? ⟨gt, 0, none⟩ = some (.pointer o) from fun w1 hb =>
    ⟨hb.cell (p := ⟨gf, 0, none⟩) l1, fun j => free_of_block (hp_below hs.f hb l1), (hb.cell (p := ⟨gl, 0, none⟩) l2).trans c1, fun j => free_of_block (hp_below hs.l hb l2), (hb.cell (p := ⟨gt, 0, none⟩) l3).trans c2⟩)
  cases st
  · have G := hid (geq_any o last t w ht)
    have e : nx false last t.toL = geqE last t.toL := rfl
    rw [e]
    have c0' : w.cell? ⟨gf, 0, none⟩ = some (.func (.func 55) #[.pointer o] #[]) := c0
    cases hq : geqE last t.toL with
    | none =>
      have G2 := hid (hq ▸ G.out)
      clear hs ht G hq hM c0 e
      go_enter Try.func57, Try.ntmps57
      go_wp2_with (
        go_at_call 55
        refine G2.out.mono ?_
        rintro e w1 ⟨e1, hb⟩
        have e2 : e = .returned (.pointer none) := e1
        subst e2
        obtain ⟨z0, z1, z2, z3, z4⟩ := HC.out w1 hb
        rw [c0'] at z0
        have HB := hid hb
        clear hb e1)
      go_ret
      exact ⟨rfl, FIN0.out w1 HB.out⟩
    | some c =>
      obtain ⟨b, k, v⟩ := c
      have G2 := hid (hq ▸ G.out)
      obtain ⟨p', q', h', nd⟩ := hM (b, k, v) (geq_mem hq)
      have d0 := (cells5 nd).1
      have hbl := hp_lt nd
      have nb : b ≠ gf := by intro e; subst e; have := hs.f; rw [nd] at this; cases this
      have nb' : gf ≠ b := fun e => nb e.symm
      clear hs ht G hq hM c0 e nd
      go_enter Try.func57, Try.ntmps57
      go_wp2_with (
        go_at_call 55
        refine G2.out.mono ?_
        rintro e w1 ⟨e1, hb⟩
        have e2 : e = .returned (.pointer (some ⟨b, 0, none⟩)) := e1
        subst e2
        obtain ⟨z0, z1, z2, z3, z4⟩ := HC.out w1 hb
        rw [c0'] at z0
        have x0 := (hb.cell (p := ⟨b, 0, none⟩) hbl).trans d0
        have HB := hid hb
        clear hb e1)
      go_ret
      exact ⟨rfl, FIN.out w1 HB.out (some (b, k, v))⟩
  · have G := hid (gtr_any o last t w ht)
    have e : nx true last t.toL = gtrE last t.toL := rfl
    rw [e]
    have c0' : w.cell? ⟨gf, 0, none⟩ = some (.func (.func 48) #[.pointer o] #[]) := c0
    cases hq : gtrE last t.toL with
    | none =>
      have G2 := hid (hq ▸ G.out)
      clear hs ht G hq hM c0 e
      go_enter Try.func57, Try.ntmps57
      go_wp2_with (
        go_at_call 48
        refine G2.out.mono ?_
        rintro e w1 ⟨e1, hb⟩
        have e2 : e = .returned (.pointer none) := e1
        subst e2
        obtain ⟨z0, z1, z2, z3, z4⟩ := HC.out w1 hb
        rw [c0'] at z0
        have HB := hid hb
        clear hb e1)
      go_ret
      exact ⟨rfl, FIN0.out w1 HB.out⟩
    | some c =>
      obtain ⟨b, k, v⟩ := c
      have G2 := hid (hq ▸ G.out)
      obtain ⟨p', q', h', nd⟩ := hM (b, k, v) (gtr_mem hq)
      have d0 := (cells5 nd).1
      have hbl := hp_lt nd
      have nb : b ≠ gf := by intro e; subst e; have := hs.f; rw [nd] at this; cases this
      have nb' : gf ≠ b := fun e => nb e.symm
      clear hs ht G hq hM c0 e nd
      go_enter Try.func57, Try.ntmps57
      go_wp2_with (
        go_at_call 48
        refine G2.out.mono ?_
        rintro e w1 ⟨e1, hb⟩
        have e2 : e = .returned (.pointer (some ⟨b, 0, none⟩)) := e1
        subst e2
        obtain ⟨z0, z1, z2, z3, z4⟩ := HC.out w1 hb
        rw [c0'] at z0
        have x0 := (hb.cell (p := ⟨b, 0, none⟩) hbl).trans d0
        have HB := hid hb
        clear hb e1)
      go_ret
      exact ⟨rfl, FIN.out w1 HB.out (some (b, k, v))⟩

theorem two' (w : World) (a b : Obj) : ((w.alloc a).alloc b).heap[w.heap.size]? = some a ∧ ((w.alloc a).alloc b).heap[w.heap.size + 1]? = some b ∧ Below w.heap.size w ((w.alloc a).alloc b) := by
  refine ⟨hp_alloc (hp_new w a) b, ?_, (below_new w a).alloc (by simp) b⟩
  have := hp_new (w.alloc a) b
  simpa using this
theorem three (w : World) (a b c : Obj) : (((w.alloc a).alloc b).alloc c).heap[w.heap.size]? = some a ∧ (((w.alloc a).alloc b).alloc c).heap[w.heap.size + 1]? = some b ∧ (((w.alloc a).alloc b).alloc c).heap[w.heap.size + 1 + 1]? = some c ∧ Below w.heap.size w (((w.alloc a).alloc b).alloc c) := by
  obtain ⟨h1, h2, h3⟩ := two' w a b
  refine ⟨hp_alloc h1 c, hp_alloc h2 c, ?_, h3.alloc (by simp; omega) c⟩
  have := hp_new ((w.alloc a).alloc b) c
  simpa using this

set_option maxRecDepth 100000 in
set_option maxHeartbeats 2000000 in
theorem steps_any (o : Option Addr) (first : ByteArray) (w : World) :
    Calls Try.prog 41 #[.pointer o, .string first] w fun x w' => ∃ gf gl gt, x = .returned (.func (.func 57) #[] #[.pointer (some ⟨gf, 0, none⟩), .pointer (some ⟨gl, 0, none⟩), .pointer (some ⟨gt, 0, none⟩)]) ∧ SB w' gf gl gt o false first ∧ Below w.heap.size w w' ∧ w.heap.size ≤ gf ∧ w.heap.size ≤ gl ∧ w.heap.size ≤ gt := by
  have hmf : ∀ (fn : Fn) (first cap : Array Value) (w : World), (Instr.makeFunc fn first cap).run Try.prog w = .ok (.func fn first cap) w := fun _ _ _ _ => rfl
  go_enter Try.func41, Try.ntmps41
  go_wp2
  go_region
  · obtain ⟨e1, e2, e3, hb⟩ := three w (Obj.cells #[Value.pointer o] 49) (Obj.cells #[Value.string first] 9) (Obj.cells #[Value.func (Fn.func 55) #[Value.pointer o] #[]] 91)
    have HH := hid (And.intro e1 (And.intro e2 (And.intro e3 hb)))
    generalize (((w.alloc (Obj.cells #[Value.pointer o] 49)).alloc (Obj.cells #[Value.string first] 9)).alloc (Obj.cells #[Value.func (Fn.func 55) #[Value.pointer o] #[]] 91)) = W at HH ⊢
    clear e1 e2 e3 hb
    go_wp2
    go_ret
    obtain ⟨e1, e2, e3, hb⟩ := HH.out
    exact ⟨_, _, _, rfl, ⟨e3, e2, e1⟩, hb.drew, by omega, by omega, by omega⟩
  · obtain ⟨e1, e2, e3, hb⟩ := three w (Obj.cells #[Value.pointer o] 49) (Obj.cells #[Value.func (Fn.func 55) #[Value.pointer o] #[]] 91) (Obj.cells #[Value.string first] 9)
    have HH := hid (And.intro e1 (And.intro e2 (And.intro e3 hb)))
    generalize (((w.alloc (Obj.cells #[Value.pointer o] 49)).alloc (Obj.cells #[Value.func (Fn.func 55) #[Value.pointer o] #[]] 91)).alloc (Obj.cells #[Value.string first] 9)) = W at HH ⊢
    clear e1 e2 e3 hb
    go_wp2
    go_ret
    obtain ⟨e1, e2, e3, hb⟩ := HH.out
    exact ⟨_, _, _, rfl, ⟨e2, e3, e1⟩, hb.drew, by omega, by omega, by omega⟩

/-- An iterator's boxes. -/
structure It (w : World) (g1 g2 g3 : Nat) (o : Option Addr) (frm to : ByteArray) : Prop where
  t : w.heap[g1]? = some (.cells #[.pointer o] 49 (0, 0))
  f : Bx w g2 frm
  e : Bx w g3 to

abbrev itV (g1 g2 g3 : Nat) : Value := .func (.func 40) #[] #[.pointer (some ⟨g1, 0, none⟩), .pointer (some ⟨g2, 0, none⟩), .pointer (some ⟨g3, 0, none⟩)]

set_option maxRecDepth 100000 in
set_option maxHeartbeats 2000000 in
theorem range_any (o : Option Addr) (frm to : ByteArray) (w : World) (h1 : frm.size ≤ 281474976710656) (h2 : to.size ≤ 281474976710656) :
    Calls Try.prog 23 #[.pointer o, .string frm, .string to] w fun x w' => ∃ g1 g2 g3, x = .returned (itV g1 g2 g3) ∧ It w' g1 g2 g3 o frm to ∧ Below w.heap.size w w' ∧ w.heap.size ≤ g1 ∧ w.heap.size ≤ g2 ∧ w.heap.size ≤ g3 := by
  have hmf : ∀ (fn : Fn) (first cap : Array Value) (w : World), (Instr.makeFunc fn first cap).run Try.prog w = .ok (.func fn first cap) w := fun _ _ _ _ => rfl
  have C1 := hid (fun W => clone_any frm W h1)
  have C2 := hid (fun W => clone_any to W h2)
  clear h1 h2
  go_enter Try.func23, Try.ntmps23
  go_wp2_with (first
    | (go_at_call 28
       refine (C1.out (w.alloc (.cells #[.pointer o] 49))).mono ?_
       rintro e w1 ⟨rfl, hb⟩
       have H1 := hid hb
       clear hb C1)
    | (go_at_call 28
       refine (C2.out w1).mono ?_
       rintro e w2 ⟨rfl, hb⟩
       have H2 := hid hb
       clear hb C2))
  go_ret
  have b1 := below_on (below_new w (.cells #[.pointer o] 49)) H1.out
  have b2 := below_on b1 H2.out
  obtain ⟨e1, e2, hb⟩ := two' w2 (Obj.cells #[Value.string frm] 9) (Obj.cells #[Value.string to] 9)
  have hs := b2.size
  refine ⟨_, _, _, rfl, ⟨?_, e1, e2⟩, below_on b2 hb, Nat.le_refl _, by omega, by omega⟩
  have t1 := hp_new w (.cells #[.pointer o] 49)
  have t2 := hp_below t1 H1.out (hp_lt t1)
  have t3 := hp_below t2 H2.out (hp_lt t2)
  exact hp_below t3 hb (hp_lt t3)

end Go.Proofs.Ytkalppcekmlgbab
