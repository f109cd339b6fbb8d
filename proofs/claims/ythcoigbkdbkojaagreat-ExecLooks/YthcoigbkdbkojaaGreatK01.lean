import Derived.Test.YthcoigbkdbkojaaGreatRows
import Derived.WalkKit
import Derived.WalkSpells
import Derived.WalkLawsBesides
import Derived.Deep.RegionHeld3
import Derived.Deep.AppendLies
import Derived.Deep.DrawnRows
import Derived.Deep.QuietTactic
import Derived.BigQuiet
import Derived.Laws.CopyOwn
import Derived.Laws.StructEq
import Derived.Handy
import Derived.Laws.ResultCell
import Derived.Lib.Bytealg
import Derived.Test.YthcoigbkdbkojaaGreatProg
import Derived.Shelf.SlGeneric
import Derived.Shelf.SlIter.Nil
import Derived.Shelf.SortM.Plain
import Derived.Shelf.SortM.SortNone
import Derived.Shelf.Strconv.Clone
import Derived.Ground.GgzProg
import Derived.Ground.SlgmProg
import Derived.Ground.NamesProg
namespace Go.Proofs.YthcoigbkdbkojaaGreat
open Go.RowKit

theorem hid {p : Prop} (h : p) : Hid p := h

/-- All blocks outside S are as they were. -/
structure Kept (S : Nat → Prop) (w w' : World) : Prop where
  os : w'.os = w.os
  tape : w'.tape = w.tape
  output : w'.output = w.output
  size : w.heap.size ≤ w'.heap.size
  block : ∀ k, k < w.heap.size → ¬ S k → w'.heap[k]? = w.heap[k]?

theorem Kept.refl (S : Nat → Prop) (w : World) : Kept S w w := ⟨rfl, rfl, rfl, Nat.le_refl _, fun _ _ _ => rfl⟩

theorem Kept.trans {S S' : Nat → Prop} {a b c : World} (h : Kept S a b) (k : Kept S' b c) (hs : ∀ i, i < a.heap.size → S' i → S i) : Kept S a c :=
  ⟨k.os.trans h.os, k.tape.trans h.tape, k.output.trans h.output, Nat.le_trans h.size k.size,
   fun i hi hn => (k.block i (Nat.lt_of_lt_of_le hi h.size) (fun hx => hn (hs i hi hx))).trans (h.block i hi hn)⟩

theorem Kept.mono {S S' : Nat → Prop} {a b : World} (h : Kept S a b) (hs : ∀ i, i < a.heap.size → S i → S' i) : Kept S' a b :=
  ⟨h.os, h.tape, h.output, h.size, fun i hi hn => h.block i hi (fun hx => hn (hs i hi hx))⟩

theorem Kept.drew {S : Nat → Prop} {a w : World} (h : Kept S a w) : Kept S a w.drew := ⟨h.os, h.tape, h.output, h.size, h.block⟩

theorem Kept.alloc {S : Nat → Prop} {a w : World} (h : Kept S a w) (o : Obj) : Kept S a (w.alloc o) :=
  h.trans (S' := fun _ => False) ⟨rfl, rfl, rfl, by simp, fun k hk _ => Below.heap_alloc _ _ _ hk⟩ (fun _ _ h => h.elim)

theorem Kept.setCell {S : Nat → Prop} {a w : World} (h : Kept S a w) {p : Addr} (hp : p.block < a.heap.size → S p.block) (u : Value) : Kept S a (w.setCell p u) :=
  h.trans (S' := fun k => k = p.block) ⟨rfl, rfl, rfl, by simp [World.setCell], fun k _ hn => Below.heap_setCell _ _ _ _ hn⟩ (fun i hi e => by subst e; exact hp hi)

theorem Kept.grown {S : Nat → Prop} {a w w' : World} {row : Option Nat} (h : Kept S a w) (hg : w.grownBy w' row) (hr : ∀ k, k < a.heap.size → row = some k → S k) : Kept S a w' :=
  h.trans (S' := fun k => row = some k) ⟨hg.os, hg.tape, hg.output, hg.size, fun k hk hn => hg.block k hk (fun e => hn e.symm)⟩ hr

theorem Kept.below {S : Nat → Prop} {a w : World} {B : Nat} (h : Kept S a w) (hB : B ≤ a.heap.size) (hs : ∀ k, k < B → ¬ S k) : Below B a w :=
  ⟨h.os, h.tape, h.output, h.size, fun k hk => h.block k (Nat.lt_of_lt_of_le hk hB) (hs k hk)⟩

theorem Kept.ofBelow {a w : World} (h : Below a.heap.size a w) : Kept (fun _ => False) a w :=
  ⟨h.os, h.tape, h.output, h.size, fun k hk _ => h.block k hk⟩

theorem Kept.cell {S : Nat → Prop} {a w : World} (h : Kept S a w) {p : Addr} {v : Value} (hc : a.cell? p = some v) (hn : ¬ S p.block) : w.cell? p = some v :=
  (World.cell?_of_block (h.block p.block (World.block_lt_of_cell? a p hc) hn)).trans hc

/-- The cells of bytes. -/
abbrev B8 (l : List Int) : List Value := l.map (Value.int .u8)

theorem Tryz.info5 : (Tryz.prog.info? 5).map (fun i => (i.zero, i.size, i.bytes)) = some (some (.int .u8 0), 1, 1) := by kernel_rfl

/-- A Writer at block p: its data in block g. -/
def Wr (B : Nat) (w : World) (p : Nat) (g : Option Nat) (bs : List Int) (e : Int) : Prop :=
  ∃ v, w.heap[p]? = some (.cells #[v, .int .i64 e] 206 (0, 0)) ∧ v.ownBlock = g ∧ w.ownsRow B 5 1 v bs.length (B8 bs)

theorem Wr.lt {B : Nat} {w : World} {p : Nat} {g : Option Nat} {bs : List Int} {e : Int} (h : Wr B w p g bs e) : p < w.heap.size := by
  obtain ⟨v, h1, _⟩ := h
  exact (Array.getElem?_eq_some_iff.1 h1).1

theorem Wr.ne {B : Nat} {w : World} {p : Nat} {g : Option Nat} {bs : List Int} {e : Int} (h : Wr B w p g bs e) : g ≠ some p := by
  obtain ⟨v, h1, rfl, h3⟩ := h
  intro hg
  rcases h3.2 with ⟨rfl, _⟩ | ⟨g, cap, cur, rfl, hb, hgg, _⟩
  · simp [Value.ownBlock] at hg
  · simp [Value.ownBlock] at hg
    subst hg
    rw [h1] at hgg
    simp at hgg

theorem ownsRow_kept {w w' : World} {B : Nat} {e : TypeId} {size : Nat} {v : Value} {n : Nat} {xs : List Value} {S : Nat → Prop} (h : w.ownsRow B e size v n xs) (hk : Kept S w w')
    (hn : ∀ k, v.ownBlock = some k → ¬ S k) : w'.ownsRow B e size v n xs := by
  refine ⟨h.1, ?_⟩
  rcases h.2 with hn' | ⟨g, cap, cur, rfl, hb, hgg, rest⟩
  · exact .inl hn'
  · refine .inr ⟨g, cap, cur, rfl, hb, ?_, rest⟩
    rw [hk.block g (Array.getElem?_eq_some_iff.1 hgg).1 (hn g rfl)]
    exact hgg

theorem Wr.kept {B : Nat} {w w' : World} {p : Nat} {g : Option Nat} {bs : List Int} {e : Int} {S : Nat → Prop} (h : Wr B w p g bs e) (hk : Kept S w w') (hp : ¬ S p) (hg : ∀ k, g = some k → ¬ S k) : Wr B w' p g bs e := by
  obtain ⟨v, h1, rfl, h3⟩ := h
  refine ⟨v, ?_, rfl, ownsRow_kept h3 hk hg⟩
  rw [hk.block p (Array.getElem?_eq_some_iff.1 h1).1 hp]
  exact h1

theorem free_of_block {w : World} {p o : Nat} {cs : Array Value} {t : TypeId} (h : w.heap[p]? = some (.cells cs t (0, 0))) : w.frozen? ⟨p, o, none⟩ = false := by
  simp [World.frozen?, h]

end Go.Proofs.YthcoigbkdbkojaaGreat

namespace Go.Proofs.YthcoigbkdbkojaaGreat
open Go.RowKit

/-- A value of the program. -/
abbrev vl (k i : Int) (s : ByteArray) : Value := .agg #[.int .i64 k, .int .i64 i, .string s]

/-- What it says by its kind alone. -/
def thing (k i : Int) (s : ByteArray) : Value := if k = 1 then .iface 181 (.int .i64 i) else if k = 2 then .iface 182 (.string s) else .nilIface

theorem thing1 (i : Int) (s : ByteArray) : thing 1 i s = .iface 181 (.int .i64 i) := rfl
theorem thing2 (i : Int) (s : ByteArray) : thing 2 i s = .iface 182 (.string s) := rfl
theorem thing0 {k : Int} (i : Int) (s : ByteArray) (h1 : k ≠ 1) (h2 : k ≠ 2) : thing k i s = .nilIface := by simp [thing, h1, h2]

theorem below1 (w : World) (o : Obj) : Below w.heap.size w (w.alloc o) := (Below.refl _ w).alloc (Nat.le_refl _) o

theorem vfacts {w : World} {r : Nat} {a b c : Value} {t : TypeId} (h : w.heap[r]? = some (.cells #[a, b, c] t (0, 0))) :
    w.cell? ⟨r, 0, none⟩ = some a ∧ w.cell? ⟨r, 1, none⟩ = some b ∧ w.cell? ⟨r, 2, none⟩ = some c ∧ ∀ o, w.frozen? ⟨r, o, none⟩ = false := by
  refine ⟨?_, ?_, ?_, fun o => by simp [World.frozen?, h]⟩ <;> (rw [cell_of_row w _ _ _ _ _ h]; rfl)

theorem blk_of {B : Nat} {w w1 : World} {r : Nat} {o : Obj} (h : Below B w w1) (hr : w.heap[r]? = some o) (hB : r < B) : w1.heap[r]? = some o := (h.block r hB).trans hr

theorem lt_of {w : World} {r : Nat} {o : Obj} (h : w.heap[r]? = some o) : r < w.heap.size := (Array.getElem?_eq_some_iff.1 h).1

theorem two1 (w : World) (o p : Obj) : ((w.alloc o).alloc p).heap[w.heap.size]? = some o := by
  rw [Below.heap_alloc _ _ _ (by simp)]; exact heap_alloc_new w o

theorem two2 (w : World) (o p : Obj) : ((w.alloc o).alloc p).heap[w.heap.size + 1]? = some p := by
  have := heap_alloc_new (w.alloc o) p
  simpa using this

theorem below2 (w : World) (o p : Obj) : Below w.heap.size w ((w.alloc o).alloc p) := (below1 w o).alloc (by simp) p

theorem set3 {w : World} {r : Nat} {a b c : Value} {t : TypeId} (h : w.heap[r]? = some (.cells #[a, b, c] t (0, 0))) (x y z : Value) :
    (((w.setCell ⟨r, 0, none⟩ x).setCell ⟨r, 1, none⟩ y).setCell ⟨r, 2, none⟩ z).heap[r]? = some (.cells #[x, y, z] t (0, 0)) := by
  simp [World.setCell, Array.getElem?_modify, h]

theorem Below.set3 {B : Nat} {w w1 : World} {r : Nat} (h : Below B w w1) (hr : B ≤ r) (x y z : Value) : Below B w (((w1.setCell ⟨r, 0, none⟩ x).setCell ⟨r, 1, none⟩ y).setCell ⟨r, 2, none⟩ z) :=
  ((h.setCell (p := ⟨r, 0, none⟩) hr x).setCell (p := ⟨r, 1, none⟩) hr y).setCell (p := ⟨r, 2, none⟩) hr z

set_option maxRecDepth 100000 in
theorem load_agg {w : World} {r : Nat} {a b c : Value} (hb : w.heap[r]? = some (.cells #[a, b, c] 28 (0, 0))) : (loadVar 28 ⟨r, 0, none⟩).run Tryz.prog w = .ok (.agg #[a, b, c]) w := by
  obtain ⟨c0, c1, c2, _⟩ := vfacts hb
  simp [go_sem, c0, c1, c2]

theorem ret_agg {fn : Func} {p : Tmp} (h : fn.results = #[.cell p 28]) {tmps : Array Value} {r : Nat} {w : World} {a b c : Value} (ht : tmps.getD p undef = .pointer (some ⟨r, 0, none⟩)) (hb : w.heap[r]? = some (.cells #[a, b, c] 28 (0, 0))) :
    (results fn tmps).run Tryz.prog w = .ok (.agg #[a, b, c]) w := by
  have ht2 := ht
  simp only [Array.getD_eq_getD_getElem?] at ht2
  simp only [results, h]
  simp [ht2, load_agg hb, asAddr]

theorem ret_agg2 {fn : Func} {p u : Tmp} (h : fn.results = #[.cell p 28, .tmp u]) {tmps : Array Value} {r : Nat} {w : World} {a b c : Value} (ht : tmps.getD p undef = .pointer (some ⟨r, 0, none⟩)) (hb : w.heap[r]? = some (.cells #[a, b, c] 28 (0, 0))) :
    (results fn tmps).run Tryz.prog w = .ok (.tuple #[.agg #[a, b, c], tmps.getD u undef]) w := by
  rw [results_cell_tmp h, ht]
  simp [Result.andThen, load_agg hb, asAddr]

set_option maxRecDepth 100000 in
set_option maxHeartbeats 800000 in
theorem thingOf_any (k i : Int) (s : ByteArray) (w : World) : Calls Tryz.prog 83 #[vl k i s] w fun x w' => x = .returned (thing k i s) ∧ Below w.heap.size w w' := by
  have hb := hid (below1 w (Obj.cells #[Value.int IntKind.i64 k, Value.int IntKind.i64 i, Value.string s] 28))
  by_cases h1 : k = 1
  · subst h1
    go_enter Tryz.func83, Tryz.ntmps83
    go_wp2
    go_ret
    exact ⟨rfl, hb.out⟩
  · by_cases h2 : k = 2
    · subst h2
      go_enter Tryz.func83, Tryz.ntmps83
      go_wp2
      go_ret
      exact ⟨rfl, hb.out⟩
    · go_enter Tryz.func83, Tryz.ntmps83
      have e1 : (k == 1) = false := by simpa using h1
      have e2 : (k == 2) = false := by simpa using h2
      go_wp2
      go_ret
      exact ⟨by rw [thing0 i s h1 h2]; rfl, hb.out⟩

set_option maxRecDepth 100000 in
set_option maxHeartbeats 800000 in
theorem ivalue_any (i : Int) (w : World) : Calls Tryz.prog 181 #[.int .i64 i] w fun x w' => x = .returned (vl 1 i ⟨#[]⟩) ∧ Below w.heap.size w w' := by
  go_enter Tryz.func181, Tryz.ntmps181
  go_wp2
  go_returns
  exact ⟨rfl, below1 w _⟩

set_option maxRecDepth 100000 in
set_option maxHeartbeats 800000 in
theorem tvalue_any (s : ByteArray) (w : World) : Calls Tryz.prog 167 #[.string s] w fun x w' => x = .returned (vl 2 0 s) ∧ Below w.heap.size w w' := by
  go_enter Tryz.func167, Tryz.ntmps167
  go_wp2
  go_returns
  exact ⟨rfl, below1 w _⟩

end Go.Proofs.YthcoigbkdbkojaaGreat

namespace Go.Proofs.YthcoigbkdbkojaaGreat
open Go.RowKit

/-- A value without what its kind does not have. -/
def plainV (k i : Int) (s : ByteArray) : Value := if k = 1 then vl 1 i ⟨#[]⟩ else if k = 2 then vl 2 0 s else vl 0 0 ⟨#[]⟩

set_option maxRecDepth 100000 in
set_option maxHeartbeats 800000 in
theorem plain_any (k i : Int) (s : ByteArray) (w : World) : Calls Tryz.prog 53 #[vl k i s] w fun x w' => x = .returned (plainV k i s) ∧ Below w.heap.size w w' := by
  have hB0 := hid (below2 w (Obj.cells #[Value.int IntKind.i64 k, Value.int IntKind.i64 i, Value.string s] 28) (Obj.cells #[Value.int IntKind.i64 0, Value.int IntKind.i64 0, Value.string { data := #[] }] 28))
  have hR0 := hid (two2 w (Obj.cells #[Value.int IntKind.i64 k, Value.int IntKind.i64 i, Value.string s] 28) (Obj.cells #[Value.int IntKind.i64 0, Value.int IntKind.i64 0, Value.string { data := #[] }] 28))
  by_cases h1 : k = 1
  · subst h1
    go_enter Tryz.func53, Tryz.ntmps53
    go_wp2_with (first
      | (go_at_call 83
         refine (thingOf_any 1 i s _).mono ?_
         rintro e w1 ⟨rfl, hb1⟩
         rw [thing1]
         have H1 := hid (And.intro (blk_of hb1 hR0.out (by simp)) (hB0.out.trans (hb1.mono hB0.out.size)))
         clear hb1)
      | (go_at_call 181
         refine (ivalue_any i _).mono ?_
         rintro e w2 ⟨rfl, hb2⟩
         have hr2 := blk_of hb2 H1.out.1 (lt_of H1.out.1)
         obtain ⟨c0, c1, c2, ff⟩ := vfacts hr2
         have H2 := hid (And.intro hr2 (H1.out.2.trans (hb2.mono H1.out.2.size)))
         clear hb2 hr2))
    refine bodyPost_ret (ret_agg Tryz.results53 rfl (set3 H2.out.1 _ _ _)) rfl ?_
    exact ⟨rfl, Below.set3 H2.out.2 (by simp) _ _ _⟩
  · by_cases h2 : k = 2
    · subst h2
      go_enter Tryz.func53, Tryz.ntmps53
      go_wp2_with (first
        | (go_at_call 83
           refine (thingOf_any 2 i s _).mono ?_
           rintro e w1 ⟨rfl, hb1⟩
           rw [thing2]
           have H1 := hid (And.intro (blk_of hb1 hR0.out (by simp)) (hB0.out.trans (hb1.mono hB0.out.size)))
           clear hb1)
        | (go_at_call 167
           refine (tvalue_any s _).mono ?_
           rintro e w2 ⟨rfl, hb2⟩
           have hr2 := blk_of hb2 H1.out.1 (lt_of H1.out.1)
           obtain ⟨c0, c1, c2, ff⟩ := vfacts hr2
           have H2 := hid (And.intro hr2 (H1.out.2.trans (hb2.mono H1.out.2.size)))
           clear hb2 hr2))
      refine bodyPost_ret (ret_agg Tryz.results53 rfl (set3 H2.out.1 _ _ _)) rfl ?_
      exact ⟨rfl, Below.set3 H2.out.2 (by simp) _ _ _⟩
    · go_enter Tryz.func53, Tryz.ntmps53
      go_wp2_with (go_at_call 83
                   refine (thingOf_any k i s _).mono ?_
                   rintro e w1 ⟨rfl, hb1⟩
                   rw [thing0 i s h1 h2]
                   have hr1 := blk_of hb1 hR0.out (by simp)
                   obtain ⟨c0, c1, c2, ff⟩ := vfacts hr1
                   have H1 := hid (And.intro hr1 (hB0.out.trans (hb1.mono hB0.out.size)))
                   clear hb1 hr1)
      refine bodyPost_ret (ret_agg Tryz.results53 rfl (set3 H1.out.1 _ _ _)) rfl ?_
      exact ⟨by simp [plainV, h1, h2], Below.set3 H1.out.2 (by simp) _ _ _⟩

/-- Why a value is none. -/
def chk (k i : Int) (s : ByteArray) : Int :=
  if k = 1 then (if s = ⟨#[]⟩ then 0 else 14) else if k = 2 then (if i = 0 then (if 256 < s.size then 4 else 0) else 14) else if k = 0 ∧ i = 0 ∧ s = ⟨#[]⟩ then 0 else 14

end Go.Proofs.YthcoigbkdbkojaaGreat

namespace Go.Proofs.YthcoigbkdbkojaaGreat
open Go.RowKit

theorem str_ne {s : ByteArray} (h : s ≠ ⟨#[]⟩) : s.toList ≠ [] := by
  intro e
  apply h
  rw [ByteArray.toList_eq] at e
  obtain ⟨⟨x⟩⟩ := s
  simp at e
  simp [e]

theorem str_ne2 {s : ByteArray} (h : s ≠ ⟨#[]⟩) : (s == (⟨#[]⟩ : ByteArray)) = false ∧ s.toList ≠ [] ∧ s.toList.isEmpty = false ∧ (s.toList == []) = false := by
  have h2 := str_ne h
  refine ⟨?_, h2, ?_, ?_⟩
  · rw [beq_toListBytes]
    rw [show (⟨#[]⟩ : ByteArray).toList = [] by rw [ByteArray.toList_eq]]
    cases hx : s.toList <;> simp_all
  · cases hx : s.toList <;> simp_all
  · cases hx : s.toList <;> simp_all

theorem emp_toList : (⟨#[]⟩ : ByteArray).toList = [] := by rw [ByteArray.toList_eq]

set_option maxRecDepth 100000 in
set_option maxHeartbeats 800000 in
theorem check_core (k i : Int) (s : ByteArray) (w : World) (a b : Int) (c : ByteArray) (hp : plainV k i s = vl a b c) (r : Int)
    (hc : (k == a) = false ∧ r = 14 ∨ (k == a) = true ∧ (i == b) = false ∧ r = 14 ∨ (k == a) = true ∧ (i == b) = true ∧ (s.toList == c.toList) = false ∧ r = 14 ∨
      (k == a) = true ∧ (i == b) = true ∧ (s.toList == c.toList) = true ∧ ((s.size : Int) ≤ 256 ∧ r = 0 ∨ (256 : Int) < s.size ∧ r = 4)) :
    Calls Tryz.prog 30 #[vl k i s] w fun x w' => x = .returned (.int .i64 r) ∧ Below w.heap.size w w' := by
  have hB0 := hid (below1 w (Obj.cells #[Value.int IntKind.i64 k, Value.int IntKind.i64 i, Value.string s] 28))
  have hR0 := hid (heap_alloc_new w (Obj.cells #[Value.int IntKind.i64 k, Value.int IntKind.i64 i, Value.string s] 28))
  have HP := hid hp
  clear hp
  rcases hc with ⟨h1, rfl⟩ | ⟨h1, h2, rfl⟩ | ⟨h1, h2, h3, rfl⟩ | ⟨h1, h2, h3, ⟨hg, rfl⟩ | ⟨hg, rfl⟩⟩
  all_goals
      go_enter Tryz.func30, Tryz.ntmps30
      go_wp2
      go_region_held (fun w' => w'.cell? ⟨w.heap.size, 0, none⟩ = some (.int .i64 k) ∧ w'.cell? ⟨w.heap.size, 1, none⟩ = some (.int .i64 i) ∧ w'.cell? ⟨w.heap.size, 2, none⟩ = some (.string s)) (go_keep) (first
              | (go_at_call 53
                 refine (plain_any k i s _).mono ?_
                 rintro e w1 ⟨rfl, hb1⟩
                 rw [HP.out]
                 have hb1' : Below (w.alloc (Obj.cells #[Value.int IntKind.i64 k, Value.int IntKind.i64 i, Value.string s] 28)).heap.size (w.alloc (Obj.cells #[Value.int IntKind.i64 k, Value.int IntKind.i64 i, Value.string s] 28)) w1 := ⟨hb1.os, hb1.tape, hb1.output, hb1.size, hb1.block⟩
                 have hr1 := blk_of hb1' hR0.out (by simp)
                 obtain ⟨c0, c1, c2, ff⟩ := vfacts hr1
                 have H1 := hid (And.intro hr1 (hB0.out.trans (hb1'.mono hB0.out.size)))
                 clear hb1 hb1' hr1))
      go_wp2
      go_ret
      exact ⟨rfl, H1.out.2⟩

theorem toList_inj {a b : ByteArray} (h : a.toList = b.toList) : a = b := by
  rw [ByteArray.toList_eq, ByteArray.toList_eq] at h
  obtain ⟨⟨x⟩⟩ := a
  obtain ⟨⟨y⟩⟩ := b
  simp at h
  simp [h]

theorem check_any (k i : Int) (s : ByteArray) (w : World) : Calls Tryz.prog 30 #[vl k i s] w fun x w' => x = .returned (.int .i64 (chk k i s)) ∧ Below w.heap.size w w' := by
  have hse : s ≠ ⟨#[]⟩ → (s.toList == (⟨#[]⟩ : ByteArray).toList) = false := by
    intro h
    rw [emp_toList]
    exact (str_ne2 h).2.2.2
  by_cases h1 : k = 1
  · subst h1
    refine check_core 1 i s w 1 i ⟨#[]⟩ rfl _ ?_
    by_cases hs : s = ⟨#[]⟩
    · subst hs
      exact .inr (.inr (.inr ⟨by simp, by simp, by simp, .inl ⟨by decide, by simp [chk]⟩⟩))
    · exact .inr (.inr (.inl ⟨by simp, by simp, hse hs, by simp [chk, hs]⟩))
  · by_cases h2 : k = 2
    · subst h2
      refine check_core 2 i s w 2 0 s rfl _ ?_
      by_cases hi : i = 0
      · subst hi
        by_cases hg : 256 < s.size
        · exact .inr (.inr (.inr ⟨by simp, by simp, by simp, .inr ⟨by omega, by simp [chk, hg]⟩⟩))
        · exact .inr (.inr (.inr ⟨by simp, by simp, by simp, .inl ⟨by omega, by simp [chk, hg]⟩⟩))
      · exact .inr (.inl ⟨by simp, by simpa using hi, by simp [chk, hi]⟩)
    · refine check_core k i s w 0 0 ⟨#[]⟩ (by simp [plainV, h1, h2]) _ ?_
      by_cases hk : k = 0
      · subst hk
        by_cases hi : i = 0
        · subst hi
          by_cases hs : s = ⟨#[]⟩
          · subst hs
            exact .inr (.inr (.inr ⟨by simp, by simp, by simp, .inl ⟨by decide, by simp [chk]⟩⟩))
          · exact .inr (.inr (.inl ⟨by simp, by simp, hse hs, by simp [chk, hs]⟩))
        · exact .inr (.inl ⟨by simp, by simpa using hi, by simp [chk, hi]⟩)
      · exact .inl ⟨by simpa using hk, by simp [chk, h1, h2, hk]⟩

/-- What a value says; nothing, if it is none. -/
def chd (k i : Int) (s : ByteArray) : Value := if chk k i s = 0 then thing k i s else .nilIface

set_option maxRecDepth 100000 in
set_option maxHeartbeats 800000 in
theorem checked_any (k i : Int) (s : ByteArray) (w : World) : Calls Tryz.prog 166 #[vl k i s] w fun x w' => x = .returned (chd k i s) ∧ Below w.heap.size w w' := by
  have hB0 := hid (below1 w (Obj.cells #[Value.int IntKind.i64 k, Value.int IntKind.i64 i, Value.string s] 28))
  have hR0 := hid (heap_alloc_new w (Obj.cells #[Value.int IntKind.i64 k, Value.int IntKind.i64 i, Value.string s] 28))
  obtain ⟨r, hr⟩ : ∃ r, r = chk k i s := ⟨_, rfl⟩
  have hch := check_any k i s
  rw [← hr] at hch
  have HC := hid hch
  have HR := hid hr
  clear hch hr
  by_cases h0 : r = 0
  · subst h0
    go_enter Tryz.func166, Tryz.ntmps166
    go_wp2_with (first
      | (go_at_call 30
         refine (HC.out _).mono ?_
         rintro e w1 ⟨rfl, hb1⟩
         have hr1 := blk_of hb1 hR0.out (by simp)
         obtain ⟨c0, c1, c2, ff⟩ := vfacts hr1
         have H1 := hid (hB0.out.trans (hb1.mono hB0.out.size))
         clear hb1 hr1)
      | (go_at_call 83
         refine (thingOf_any k i s _).mono ?_
         rintro e w2 ⟨rfl, hb2⟩))
    go_ret
    exact ⟨by simp [chd, ← HR.out], H1.out.trans (hb2.mono H1.out.size)⟩
  · have hb : (r == 0) = false := by simpa using h0
    go_enter Tryz.func166, Tryz.ntmps166
    go_wp2_with (
         go_at_call 30
         refine (HC.out _).mono ?_
         rintro e w1 ⟨rfl, hb1⟩
         have H1 := hid (hB0.out.trans (hb1.mono hB0.out.size))
         clear hb1)
    go_ret
    exact ⟨by simp [chd, ← HR.out, h0], H1.out⟩

end Go.Proofs.YthcoigbkdbkojaaGreat

namespace Go.Proofs.YthcoigbkdbkojaaGreat
open Go.RowKit

/-- Two integers, held against each other. -/
def cmpI (a b : Int) : Int := if a < b then -1 else if b < a then 1 else 0

/-- Two texts. -/
abbrev cmpS (a b : ByteArray) : Int := Lib.compareBytes a.data.toList b.data.toList

set_option maxRecDepth 100000 in
set_option maxHeartbeats 800000 in
theorem isNaN_int (a : Int) (w : World) : Calls Tryz.prog 216 #[.int .i64 a] w fun x w' => x = .returned (.bool false) ∧ w' = w := by
  go_enter Tryz.func216, Tryz.ntmps216
  go_wp2
  go_ret
  exact ⟨by simp, rfl⟩

set_option maxRecDepth 100000 in
set_option maxHeartbeats 800000 in
theorem isNaN_int64 (a : Int) (w : World) : Calls Tryz.prog 217 #[.int .i64 a] w fun x w' => x = .returned (.bool false) ∧ w' = w := by
  go_enter Tryz.func217, Tryz.ntmps217
  go_wp2
  go_ret
  exact ⟨by simp, rfl⟩

set_option maxRecDepth 100000 in
set_option maxHeartbeats 800000 in
theorem cmp_int (a b : Int) (w : World) : Calls Tryz.prog 207 #[.int .i64 a, .int .i64 b] w fun x w' => x = .returned (.int .i64 (cmpI a b)) ∧ w' = w := by
  obtain ⟨r, hr⟩ : ∃ r, r = cmpI a b := ⟨_, rfl⟩
  rw [← hr]
  have HR := hid hr
  clear hr
  rcases Int.lt_trichotomy a b with h | h | h
  all_goals
    go_enter Tryz.func207, Tryz.ntmps207
    go_wp2_with (
      go_at_call 216
      refine (isNaN_int _ _).mono ?_
      rintro e w1 ⟨rfl, e1⟩
      rw [e1]
      clear e1 w1)
    go_ret
    refine ⟨?_, rfl⟩
    rw [HR.out]
    first
      | (rw [show cmpI a b = -1 by unfold cmpI; rw [if_pos h]]; rfl)
      | (rw [show cmpI a b = 0 by unfold cmpI; rw [if_neg (by omega), if_neg (by omega)]]; rfl)
      | (rw [show cmpI a b = 1 by unfold cmpI; rw [if_neg (by omega), if_pos h]]; rfl)

set_option maxRecDepth 100000 in
set_option maxHeartbeats 800000 in
theorem cmp_int64 (a b : Int) (w : World) : Calls Tryz.prog 208 #[.int .i64 a, .int .i64 b] w fun x w' => x = .returned (.int .i64 (cmpI a b)) ∧ w' = w := by
  obtain ⟨r, hr⟩ : ∃ r, r = cmpI a b := ⟨_, rfl⟩
  rw [← hr]
  have HR := hid hr
  clear hr
  rcases Int.lt_trichotomy a b with h | h | h
  all_goals
    go_enter Tryz.func208, Tryz.ntmps208
    go_wp2_with (
      go_at_call 217
      refine (isNaN_int64 _ _).mono ?_
      rintro e w1 ⟨rfl, e1⟩
      rw [e1]
      clear e1 w1)
    go_ret
    refine ⟨?_, rfl⟩
    rw [HR.out]
    first
      | (rw [show cmpI a b = -1 by unfold cmpI; rw [if_pos h]]; rfl)
      | (rw [show cmpI a b = 0 by unfold cmpI; rw [if_neg (by omega), if_neg (by omega)]]; rfl)
      | (rw [show cmpI a b = 1 by unfold cmpI; rw [if_neg (by omega), if_pos h]]; rfl)

set_option maxRecDepth 100000 in
set_option maxHeartbeats 800000 in
theorem cmpString_any (a b : ByteArray) (w : World) : Calls Tryz.prog 218 #[.string a, .string b] w fun x w' => x = .returned (.int .i64 (cmpS a b)) ∧ w' = w := by
  go_enter Tryz.func218, Tryz.ntmps218
  go_wp2
  rw [run_callFunc_extern Tryz.func220 (by kernel_rfl) (by kernel_rfl) (by kernel_rfl) (e := Extern.BytealgCompare.compare) (by kernel_rfl), Lib.run_compareString]
  simp only [Result.andThen]
  rw [Oper.upon_value]
  go_wp2
  go_ret
  exact ⟨rfl, rfl⟩

set_option maxRecDepth 100000 in
set_option maxHeartbeats 800000 in
theorem strCompare_any (a b : ByteArray) (w : World) : Calls Tryz.prog 209 #[.string a, .string b] w fun x w' => x = .returned (.int .i64 (cmpS a b)) ∧ w' = w := by
  go_enter Tryz.func209, Tryz.ntmps209
  go_wp2_with (
      go_at_call 218
      refine (cmpString_any _ _ _).mono ?_
      rintro e w1 ⟨rfl, e1⟩
      rw [e1]
      clear e1 w1)
  go_ret
  exact ⟨rfl, rfl⟩

/-- Two values, held against each other. -/
def cmpV (k i : Int) (s : ByteArray) (l j : Int) (t : ByteArray) : Int :=
  if cmpI k l ≠ 0 then cmpI k l else if k = 1 then cmpI i j else if k = 2 then cmpS s t else 0

end Go.Proofs.YthcoigbkdbkojaaGreat

namespace Go.Proofs.YthcoigbkdbkojaaGreat
open Go.RowKit

abbrev vo (k i : Int) (s : ByteArray) : Obj := .cells #[.int .i64 k, .int .i64 i, .string s] 28

theorem ta60 (v : Value) (w : World) : (Instr.typeAssert (.iface 181 v) 159 181 true).run Tryz.prog w = .ok (.tuple #[v, .bool true]) w := by kernel_rfl
theorem ta6260 (v : Value) (w : World) : (Instr.typeAssert (.iface 182 v) 159 181 true).run Tryz.prog w = .ok (.tuple #[.int .i64 0, .bool false]) w := by kernel_rfl
theorem ta62 (v : Value) (w : World) : (Instr.typeAssert (.iface 182 v) 159 182 true).run Tryz.prog w = .ok (.tuple #[v, .bool true]) w := by kernel_rfl
theorem ta6062 (v : Value) (w : World) : (Instr.typeAssert (.iface 181 v) 159 182 true).run Tryz.prog w = .ok (.tuple #[.string ⟨#[]⟩, .bool false]) w := by kernel_rfl
theorem tan60 (w : World) : (Instr.typeAssert .nilIface 159 181 true).run Tryz.prog w = .ok (.tuple #[.int .i64 0, .bool false]) w := by kernel_rfl
theorem tan62 (w : World) : (Instr.typeAssert .nilIface 159 182 true).run Tryz.prog w = .ok (.tuple #[.string ⟨#[]⟩, .bool false]) w := by kernel_rfl

set_option maxRecDepth 100000 in
set_option maxHeartbeats 800000 in
theorem compare_any (k i : Int) (s : ByteArray) (l j : Int) (t : ByteArray) (w : World) : Calls Tryz.prog 185 #[vl k i s, vl l j t] w fun x w' => x = .returned (.int .i64 (cmpV k i s l j t)) ∧ Below w.heap.size w w' := by
  have hB0 := hid (below2 w (vo k i s) (vo l j t))
  have hR0 := hid (two2 w (vo k i s) (vo l j t))
  obtain ⟨c, hc⟩ : ∃ c, c = cmpI k l := ⟨_, rfl⟩
  have hcc : Hid (∀ w, Calls Tryz.prog 207 #[.int .i64 k, .int .i64 l] w fun x w' => x = .returned (.int .i64 c) ∧ w' = w) := hid (by rw [hc]; exact cmp_int k l)
  have HC := hid hc
  clear hc
  have q1 := ta60
  have q2 := ta6260
  have q3 := ta62
  have q4 := tan60
  have q5 := tan62
  by_cases h0 : c = 0
  · subst h0
    by_cases h1 : k = 1
    · subst h1
      go_enter Tryz.func185, Tryz.ntmps185
      go_wp2_with (first
        | (go_at_call 207
           refine (hcc.out _).mono ?_
           rintro e w1 ⟨rfl, e1⟩
           rw [e1]
           clear e1 w1)
        | (go_at_call 83
           refine (thingOf_any 1 i s _).mono ?_
           rintro e w1 ⟨rfl, hb1⟩
           rw [thing1]
           have hr1 := blk_of hb1 hR0.out (by simp)
           obtain ⟨c0, c1, c2, ff⟩ := vfacts hr1
           have H1 := hid (hB0.out.trans (hb1.mono hB0.out.size))
           clear hb1 hr1)
        | (go_at_call 208
           refine (cmp_int64 _ _ _).mono ?_
           rintro e w2 ⟨rfl, e2⟩
           rw [e2]
           clear e2 w2))
      go_ret
      exact ⟨by simp [cmpV, ← HC.out], H1.out⟩
    · by_cases h2 : k = 2
      · subst h2
        go_enter Tryz.func185, Tryz.ntmps185
        go_wp2_with (first
          | (go_at_call 207
             refine (hcc.out _).mono ?_
             rintro e w1 ⟨rfl, e1⟩
             rw [e1]
             clear e1 w1)
          | (go_at_call 83
             refine (thingOf_any 2 i s _).mono ?_
             rintro e w1 ⟨rfl, hb1⟩
             rw [thing2]
             have hr1 := blk_of hb1 hR0.out (by simp)
             obtain ⟨c0, c1, c2, ff⟩ := vfacts hr1
             have H1 := hid (hB0.out.trans (hb1.mono hB0.out.size))
             clear hb1 hr1)
          | (go_at_call 209
             refine (strCompare_any _ _ _).mono ?_
             rintro e w2 ⟨rfl, e2⟩
             rw [e2]
             clear e2 w2))
        go_ret
        exact ⟨by simp [cmpV, ← HC.out], H1.out⟩
      · go_enter Tryz.func185, Tryz.ntmps185
        go_wp2_with (first
          | (go_at_call 207
             refine (hcc.out _).mono ?_
             rintro e w1 ⟨rfl, e1⟩
             rw [e1]
             clear e1 w1)
          | (go_at_call 83
             refine (thingOf_any k i s _).mono ?_
             rintro e w1 ⟨rfl, hb1⟩
             rw [thing0 i s h1 h2]
             have H1 := hid (hB0.out.trans (hb1.mono hB0.out.size))
             clear hb1))
        go_ret
        exact ⟨by simp [cmpV, ← HC.out, h1, h2], H1.out⟩
  · have hb : (c == 0) = false := by simpa using h0
    go_enter Tryz.func185, Tryz.ntmps185
    go_wp2_with (
           go_at_call 207
           refine (hcc.out _).mono ?_
           rintro e w1 ⟨rfl, e1⟩
           rw [e1]
           clear e1 w1)
    go_ret
    exact ⟨by simp [cmpV, ← HC.out, h0], hB0.out⟩

end Go.Proofs.YthcoigbkdbkojaaGreat

/-
  DERIVED: THE SHELF's CONTRACTS AT THIS DUMP, IN PLAIN WORDS (tools/lay-plain.mjs out of 'YthcoigbkdbkojaaGreatLaysRaw.lean', which tools/lay-shelf.mjs wrote): THE SAME DECLARATIONS UNDER THE SAME NAMES: 'import', 'namespace', 'open', 'def', 'theorem' AND NOTHING ELSE: no command of the shelf's: FOR A HAND-IN. Each laying: the table of numbers ('.._ren') and one theorem, a field a fact of the dump's own or the kernel's comparison; each contract: ONE APPLICATION.
-/
namespace Go.Proofs
open Go.Shelf
def Tryz.keys100_ren : Go.Shelf.Ren := ⟨fun | 7 => 100 | 10 => 138 | n => n, fun | 23 => 79 | 26 => 9 | 3 => 28 | 28 => 166 | 0 => 0 | 27 => 165 | 33 => 56 | 4 => 4 | n => n, fun | n => n⟩
theorem Tryz.keys100 : Go.Proofs.SlLaysZ.n7 Tryz.prog Tryz.keys100_ren := {
  mixed := by kernel_rfl
  f7 := ⟨Tryz.f100.name, by decide, Tryz.func100.trans (congrArg some (by kernel_rfl))⟩
  f10 := ⟨Tryz.f138.name, by decide, Tryz.func138.trans (congrArg some (by kernel_rfl))⟩
  t0 := Tryz.underlying0
  a0 := Tryz.isAgg0
  z0 := Tryz.sizeOf0
  v0 := Tryz.zeroValue0
  t4 := Tryz.underlying4
  a4 := Tryz.isAgg4
  z4 := Tryz.sizeOf4
  v4 := Tryz.zeroValue4
  t23 := Tryz.underlying79
  a23 := Tryz.isAgg79
  z23 := Tryz.sizeOf79
  v23 := Tryz.zeroValue79
  t26 := Tryz.underlying9
  a26 := Tryz.isAgg9
  z26 := Tryz.sizeOf9
  v26 := Tryz.zeroValue9
  t27 := Tryz.underlying165
  a27 := Tryz.isAgg165
  z27 := Tryz.sizeOf165
  v27 := Tryz.zeroValue165
  t28 := Tryz.underlying166
  a28 := Tryz.isAgg166
  z28 := Tryz.sizeOf166
  v28 := Tryz.zeroValue166
  t33 := Tryz.underlying56
  a33 := Tryz.isAgg56
  z33 := Tryz.sizeOf56
  v33 := Tryz.zeroValue56 }
def Tryz.sorted99_ren : Go.Shelf.Ren := ⟨fun | 6 => 99 | 8 => 136 | 9 => 137 | 11 => 172 | 13 => 174 | 12 => 173 | 23 => 196 | 24 => 197 | 14 => 187 | 15 => 188 | 16 => 189 | 17 => 190 | 18 => 191 | 19 => 192 | 20 => 193 | 21 => 194 | 22 => 195 | 25 => 210 | 26 => 211 | 27 => 212 | 28 => 213 | 29 => 214 | 30 => 215 | 31 => 219 | n => n, fun | 26 => 9 | 28 => 166 | 24 => 163 | 0 => 0 | 3 => 3 | 37 => 222 | 48 => 250 | 50 => 208 | 4 => 4 | 40 => 242 | 39 => 241 | 45 => 247 | 5 => 5 | 9 => 9 | 51 => 256 | 55 => 156 | 57 => 262 | 58 => 88 | 33 => 56 | n => n, fun | n => n⟩
theorem Tryz.sorted99 : Go.Proofs.SlLaysZ.n6 Tryz.prog Tryz.sorted99_ren := {
  mixed := by kernel_rfl
  f6 := ⟨Tryz.f99.name, by decide, Tryz.func99.trans (congrArg some (by kernel_rfl))⟩
  f8 := ⟨Tryz.f136.name, by decide, Tryz.func136.trans (congrArg some (by kernel_rfl))⟩
  f11 := ⟨Tryz.f172.name, by decide, Tryz.func172.trans (congrArg some (by kernel_rfl))⟩
  t0 := Tryz.underlying0
  a0 := Tryz.isAgg0
  z0 := Tryz.sizeOf0
  v0 := Tryz.zeroValue0
  t24 := Tryz.underlying163
  a24 := Tryz.isAgg163
  z24 := Tryz.sizeOf163
  v24 := Tryz.zeroValue163
  t26 := Tryz.underlying9
  a26 := Tryz.isAgg9
  z26 := Tryz.sizeOf9
  v26 := Tryz.zeroValue9
  t28 := Tryz.underlying166
  a28 := Tryz.isAgg166
  z28 := Tryz.sizeOf166
  v28 := Tryz.zeroValue166
  i26 := by kernel_rfl }
def Tryz.sort137_ren : Go.Shelf.Ren := ⟨fun | 6 => 137 | 8 => 174 | 9 => 173 | 19 => 196 | 20 => 197 | 21 => 187 | 22 => 188 | 23 => 189 | 24 => 190 | 25 => 191 | 26 => 192 | 27 => 193 | 28 => 194 | 29 => 195 | 36 => 210 | 31 => 211 | 32 => 212 | 37 => 213 | 38 => 214 | 39 => 215 | 41 => 219 | n => n, fun | 27 => 163 | 29 => 9 | 3 => 3 | 32 => 222 | 26 => 163 | 0 => 0 | 44 => 250 | 46 => 208 | 4 => 4 | 36 => 242 | 35 => 241 | 41 => 247 | 5 => 5 | 9 => 9 | 53 => 256 | 57 => 156 | 63 => 262 | 64 => 88 | n => n, fun | n => n⟩
theorem Tryz.sort137 : Go.Proofs.SlLaysM.n6 Tryz.prog Tryz.sort137_ren := {
  mixed := by kernel_rfl
  f6 := ⟨Tryz.f137.name, by decide, Tryz.func137.trans (congrArg some (by kernel_rfl))⟩
  f8 := Tryz.func174.trans (congrArg some (by kernel_rfl))
  f9 := ⟨Tryz.f173.name, by decide, Tryz.func173.trans (congrArg some (by kernel_rfl))⟩
  f19 := Tryz.func196.trans (congrArg some (by kernel_rfl))
  f20 := Tryz.func197.trans (congrArg some (by kernel_rfl))
  f21 := ⟨Tryz.f187.name, by decide, Tryz.func187.trans (congrArg some (by kernel_rfl))⟩
  f22 := ⟨Tryz.f188.name, by decide, Tryz.func188.trans (congrArg some (by kernel_rfl))⟩
  f23 := ⟨Tryz.f189.name, by decide, Tryz.func189.trans (congrArg some (by kernel_rfl))⟩
  f24 := ⟨Tryz.f190.name, by decide, Tryz.func190.trans (congrArg some (by kernel_rfl))⟩
  f25 := ⟨Tryz.f191.name, by decide, Tryz.func191.trans (congrArg some (by kernel_rfl))⟩
  f26 := ⟨Tryz.f192.name, by decide, Tryz.func192.trans (congrArg some (by kernel_rfl))⟩
  f27 := ⟨Tryz.f193.name, by decide, Tryz.func193.trans (congrArg some (by kernel_rfl))⟩
  f28 := ⟨Tryz.f194.name, by decide, Tryz.func194.trans (congrArg some (by kernel_rfl))⟩
  f29 := ⟨Tryz.f195.name, by decide, Tryz.func195.trans (congrArg some (by kernel_rfl))⟩
  f31 := Tryz.func211.trans (congrArg some (by kernel_rfl))
  f32 := Tryz.func212.trans (congrArg some (by kernel_rfl))
  f36 := ⟨Tryz.f210.name, by decide, Tryz.func210.trans (congrArg some (by kernel_rfl))⟩
  f37 := ⟨Tryz.f213.name, by decide, Tryz.func213.trans (congrArg some (by kernel_rfl))⟩
  f38 := ⟨Tryz.f214.name, by decide, Tryz.func214.trans (congrArg some (by kernel_rfl))⟩
  f39 := ⟨Tryz.f215.name, by decide, Tryz.func215.trans (congrArg some (by kernel_rfl))⟩
  f41 := ⟨Tryz.f219.name, by decide, Tryz.func219.trans (congrArg some (by kernel_rfl))⟩
  t0 := Tryz.underlying0
  a0 := Tryz.isAgg0
  z0 := Tryz.sizeOf0
  v0 := Tryz.zeroValue0
  t3 := Tryz.underlying3
  a3 := Tryz.isAgg3
  z3 := Tryz.sizeOf3
  v3 := Tryz.zeroValue3
  t4 := Tryz.underlying4
  a4 := Tryz.isAgg4
  z4 := Tryz.sizeOf4
  v4 := Tryz.zeroValue4
  t5 := Tryz.underlying5
  a5 := Tryz.isAgg5
  z5 := Tryz.sizeOf5
  v5 := Tryz.zeroValue5
  t9 := Tryz.underlying9
  a9 := Tryz.isAgg9
  z9 := Tryz.sizeOf9
  v9 := Tryz.zeroValue9
  t26 := Tryz.underlying163
  a26 := Tryz.isAgg163
  z26 := Tryz.sizeOf163
  v26 := Tryz.zeroValue163
  t27 := Tryz.underlying163
  a27 := Tryz.isAgg163
  z27 := Tryz.sizeOf163
  v27 := Tryz.zeroValue163
  t29 := Tryz.underlying9
  a29 := Tryz.isAgg9
  z29 := Tryz.sizeOf9
  v29 := Tryz.zeroValue9
  t32 := Tryz.underlying222
  a32 := Tryz.isAgg222
  z32 := Tryz.sizeOf222
  v32 := Tryz.zeroValue222
  t35 := Tryz.underlying241
  a35 := Tryz.isAgg241
  z35 := Tryz.sizeOf241
  v35 := Tryz.zeroValue241
  t36 := Tryz.underlying242
  a36 := Tryz.isAgg242
  z36 := Tryz.sizeOf242
  v36 := Tryz.zeroValue242
  t41 := Tryz.underlying247
  a41 := Tryz.isAgg247
  z41 := Tryz.sizeOf247
  v41 := Tryz.zeroValue247
  t44 := Tryz.underlying250
  a44 := Tryz.isAgg250
  z44 := Tryz.sizeOf250
  v44 := Tryz.zeroValue250
  t46 := Tryz.underlying208
  a46 := Tryz.isAgg208
  z46 := Tryz.sizeOf208
  v46 := Tryz.zeroValue208
  t53 := Tryz.underlying256
  a53 := Tryz.isAgg256
  z53 := Tryz.sizeOf256
  v53 := Tryz.zeroValue256
  t57 := Tryz.underlying156
  a57 := Tryz.isAgg156
  z57 := Tryz.sizeOf156
  v57 := Tryz.zeroValue156
  t63 := Tryz.underlying262
  a63 := Tryz.isAgg262
  z63 := Tryz.sizeOf262
  v63 := Tryz.zeroValue262
  t64 := Tryz.underlying88
  a64 := Tryz.isAgg88
  z64 := Tryz.sizeOf88
  v64 := Tryz.zeroValue88 }
def Tryz.laysM316_ren : Go.Shelf.Ren := ⟨fun | 316 => 115 | n => n, fun | 9 => 9 | 3 => 3 | 4 => 4 | 37 => 201 | 0 => 0 | 127 => 202 | 5 => 5 | n => n, fun | n => n⟩
theorem Tryz.laysM316 : Go.Proofs.LaysM.n316 Tryz.prog Tryz.laysM316_ren := {
  mixed := by kernel_rfl
  f316 := Tryz.func115.trans (congrArg some (by kernel_rfl))
  t0 := Tryz.underlying0
  a0 := Tryz.isAgg0
  z0 := Tryz.sizeOf0
  v0 := Tryz.zeroValue0
  t3 := Tryz.underlying3
  a3 := Tryz.isAgg3
  z3 := Tryz.sizeOf3
  v3 := Tryz.zeroValue3
  t4 := Tryz.underlying4
  a4 := Tryz.isAgg4
  z4 := Tryz.sizeOf4
  v4 := Tryz.zeroValue4
  t9 := Tryz.underlying9
  a9 := Tryz.isAgg9
  z9 := Tryz.sizeOf9
  v9 := Tryz.zeroValue9
  t37 := Tryz.underlying201
  a37 := Tryz.isAgg201
  z37 := Tryz.sizeOf201
  v37 := Tryz.zeroValue201
  t127 := Tryz.underlying202
  a127 := Tryz.isAgg202
  z127 := Tryz.sizeOf202
  v127 := Tryz.zeroValue202
  t5 := Tryz.underlying5
  a5 := Tryz.isAgg5
  z5 := Tryz.sizeOf5
  v5 := Tryz.zeroValue5
  i0 := by kernel_rfl
  i3 := by kernel_rfl
  i4 := by kernel_rfl
  i5 := by kernel_rfl
  i9 := by kernel_rfl
  i37 := by kernel_rfl
  i127 := by kernel_rfl }
end Go.Proofs
