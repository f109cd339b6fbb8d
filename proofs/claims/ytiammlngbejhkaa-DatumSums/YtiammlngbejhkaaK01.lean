import Derived.Test.YtiammlngbejhkaaRows
import Derived.WalkKit
import Derived.WalkSpells
import Derived.WalkLawsBesides
import Derived.Deep.RegionHeld3
import Derived.Deep.AppendLies
import Derived.Deep.DrawnRows
import Derived.Deep.QuietTactic
import Derived.BigQuiet
import Derived.Laws.CopyOwn
import Derived.Laws.StructEq
import Derived.Handy
import Derived.Laws.ResultCell
import Derived.Lib.Bytealg
import Derived.Shelf.SlGeneric
import Derived.Shelf.Strconv.Clone
import Derived.Shelf.Bits.Mul64
import Derived.Ground.NamesProg
import Derived.Test.YtiammlngbejhkaaProg
namespace Go.Proofs.Ytiammlngbejhkaa
open Go.RowKit

theorem hid {p : Prop} (h : p) : Hid p := h

/-- All blocks outside S are as they were. -/
structure Kept (S : Nat → Prop) (w w' : World) : Prop where
  os : w'.os = w.os
  tape : w'.tape = w.tape
  output : w'.output = w.output
  size : w.heap.size ≤ w'.heap.size
  block : ∀ k, k < w.heap.size → ¬ S k → w'.heap[k]? = w.heap[k]?

theorem Kept.refl (S : Nat → Prop) (w : World) : Kept S w w := ⟨rfl, rfl, rfl, Nat.le_refl _, fun _ _ _ => rfl⟩

theorem Kept.trans {S S' : Nat → Prop} {a b c : World} (h : Kept S a b) (k : Kept S' b c) (hs : ∀ i, i < a.heap.size → S' i → S i) : Kept S a c :=
  ⟨k.os.trans h.os, k.tape.trans h.tape, k.output.trans h.output, Nat.le_trans h.size k.size,
   fun i hi hn => (k.block i (Nat.lt_of_lt_of_le hi h.size) (fun hx => hn (hs i hi hx))).trans (h.block i hi hn)⟩

theorem Kept.mono {S S' : Nat → Prop} {a b : World} (h : Kept S a b) (hs : ∀ i, i < a.heap.size → S i → S' i) : Kept S' a b :=
  ⟨h.os, h.tape, h.output, h.size, fun i hi hn => h.block i hi (fun hx => hn (hs i hi hx))⟩

theorem Kept.drew {S : Nat → Prop} {a w : World} (h : Kept S a w) : Kept S a w.drew := ⟨h.os, h.tape, h.output, h.size, h.block⟩

theorem Kept.alloc {S : Nat → Prop} {a w : World} (h : Kept S a w) (o : Obj) : Kept S a (w.alloc o) :=
  h.trans (S' := fun _ => False) ⟨rfl, rfl, rfl, by simp, fun k hk _ => Below.heap_alloc _ _ _ hk⟩ (fun _ _ h => h.elim)

theorem Kept.setCell {S : Nat → Prop} {a w : World} (h : Kept S a w) {p : Addr} (hp : p.block < a.heap.size → S p.block) (u : Value) : Kept S a (w.setCell p u) :=
  h.trans (S' := fun k => k = p.block) ⟨rfl, rfl, rfl, by simp [World.setCell], fun k _ hn => Below.heap_setCell _ _ _ _ hn⟩ (fun i hi e => by subst e; exact hp hi)

theorem Kept.grown {S : Nat → Prop} {a w w' : World} {row : Option Nat} (h : Kept S a w) (hg : w.grownBy w' row) (hr : ∀ k, k < a.heap.size → row = some k → S k) : Kept S a w' :=
  h.trans (S' := fun k => row = some k) ⟨hg.os, hg.tape, hg.output, hg.size, fun k hk hn => hg.block k hk (fun e => hn e.symm)⟩ hr

theorem Kept.below {S : Nat → Prop} {a w : World} {B : Nat} (h : Kept S a w) (hB : B ≤ a.heap.size) (hs : ∀ k, k < B → ¬ S k) : Below B a w :=
  ⟨h.os, h.tape, h.output, h.size, fun k hk => h.block k (Nat.lt_of_lt_of_le hk hB) (hs k hk)⟩

theorem Kept.ofBelow {a w : World} (h : Below a.heap.size a w) : Kept (fun _ => False) a w :=
  ⟨h.os, h.tape, h.output, h.size, fun k hk _ => h.block k hk⟩

theorem Kept.cell {S : Nat → Prop} {a w : World} (h : Kept S a w) {p : Addr} {v : Value} (hc : a.cell? p = some v) (hn : ¬ S p.block) : w.cell? p = some v :=
  (World.cell?_of_block (h.block p.block (World.block_lt_of_cell? a p hc) hn)).trans hc

/-- The cells of bytes. -/
abbrev B8 (l : List Int) : List Value := l.map (Value.int .u8)

theorem Try.info5 : (Try.prog.info? 5).map (fun i => (i.zero, i.size, i.bytes)) = some (some (.int .u8 0), 1, 1) := by kernel_rfl

/-- A Writer at block p: its data in block g. -/
def Wr (B : Nat) (w : World) (p : Nat) (g : Option Nat) (bs : List Int) (e : Int) : Prop :=
  ∃ v, w.heap[p]? = some (.cells #[v, .int .i64 e] 79 (0, 0)) ∧ v.ownBlock = g ∧ w.ownsRow B 5 1 v bs.length (B8 bs)

theorem Wr.lt {B : Nat} {w : World} {p : Nat} {g : Option Nat} {bs : List Int} {e : Int} (h : Wr B w p g bs e) : p < w.heap.size := by
  obtain ⟨v, h1, _⟩ := h
  exact (Array.getElem?_eq_some_iff.1 h1).1

theorem Wr.glt {B : Nat} {w : World} {p : Nat} {g : Option Nat} {bs : List Int} {e : Int} (h : Wr B w p g bs e) : ∀ k, g = some k → B ≤ k ∧ k < w.heap.size := by
  obtain ⟨v, _, rfl, h3⟩ := h
  exact h3.lt

theorem Wr.ne {B : Nat} {w : World} {p : Nat} {g : Option Nat} {bs : List Int} {e : Int} (h : Wr B w p g bs e) : g ≠ some p := by
  obtain ⟨v, h1, rfl, h3⟩ := h
  intro hg
  rcases h3.2 with ⟨rfl, _⟩ | ⟨g, cap, cur, rfl, hb, hgg, _⟩
  · simp [Value.ownBlock] at hg
  · simp [Value.ownBlock] at hg
    subst hg
    rw [h1] at hgg
    simp at hgg

theorem ownsRow_kept {w w' : World} {B : Nat} {e : TypeId} {size : Nat} {v : Value} {n : Nat} {xs : List Value} {S : Nat → Prop} (h : w.ownsRow B e size v n xs) (hk : Kept S w w')
    (hn : ∀ k, v.ownBlock = some k → ¬ S k) : w'.ownsRow B e size v n xs := by
  refine ⟨h.1, ?_⟩
  rcases h.2 with hn' | ⟨g, cap, cur, rfl, hb, hgg, rest⟩
  · exact .inl hn'
  · refine .inr ⟨g, cap, cur, rfl, hb, ?_, rest⟩
    rw [hk.block g (Array.getElem?_eq_some_iff.1 hgg).1 (hn g rfl)]
    exact hgg

theorem Wr.kept {B : Nat} {w w' : World} {p : Nat} {g : Option Nat} {bs : List Int} {e : Int} {S : Nat → Prop} (h : Wr B w p g bs e) (hk : Kept S w w') (hp : ¬ S p) (hg : ∀ k, g = some k → ¬ S k) : Wr B w' p g bs e := by
  obtain ⟨v, h1, rfl, h3⟩ := h
  refine ⟨v, ?_, rfl, ownsRow_kept h3 hk hg⟩
  rw [hk.block p (Array.getElem?_eq_some_iff.1 h1).1 hp]
  exact h1

theorem cell_of_pair {w : World} {p : Nat} {a b : Value} {t : TypeId} (h : w.heap[p]? = some (.cells #[a, b] t (0, 0))) : w.cell? ⟨p, 0, none⟩ = some a ∧ w.cell? ⟨p, 1, none⟩ = some b := by
  constructor
  · rw [cell_of_row w p 0 _ t (0, 0) h]; rfl
  · rw [cell_of_row w p 1 _ t (0, 0) h]; rfl

theorem free_of_block {w : World} {p o : Nat} {cs : Array Value} {t : TypeId} (h : w.heap[p]? = some (.cells cs t (0, 0))) : w.frozen? ⟨p, o, none⟩ = false := by
  simp [World.frozen?, h]

theorem heap_setCell_same {w : World} {p : Nat} {a b x : Value} {t : TypeId} (h : w.heap[p]? = some (.cells #[a, b] t (0, 0))) : (w.setCell ⟨p, 0, none⟩ x).heap[p]? = some (.cells #[x, b] t (0, 0)) := by
  simp [World.setCell, Array.getElem?_modify, h]

theorem heap_setCell_same1 {w : World} {p : Nat} {a b x : Value} {t : TypeId} (h : w.heap[p]? = some (.cells #[a, b] t (0, 0))) : (w.setCell ⟨p, 1, none⟩ x).heap[p]? = some (.cells #[a, x] t (0, 0)) := by
  simp [World.setCell, Array.getElem?_modify, h]

/-- The Writer's block behind an append of its data. -/
theorem push_block {B : Nat} {w w1 : World} {p : Nat} {v : Value} {e : Int} {bs : List Int} (h1 : w.heap[p]? = some (.cells #[v, .int .i64 e] 79 (0, 0))) (hw : Wr B w p v.ownBlock bs e)
    (o : Obj) (hgrow : (w.alloc o).grownBy w1 v.ownBlock) : w1.heap[p]? = some (.cells #[v, .int .i64 e] 79 (0, 0)) := by
  have hp := (Array.getElem?_eq_some_iff.1 h1).1
  rw [hgrow.block p (by simp; omega) (fun h => hw.ne h.symm), Below.heap_alloc _ _ _ hp]
  exact h1

theorem push_step {B : Nat} {w w1 : World} {p : Nat} {v : Value} {e : Int} {bs ns : List Int} (h1 : w.heap[p]? = some (.cells #[v, .int .i64 e] 79 (0, 0))) (hw : Wr B w p v.ownBlock bs e)
    (o : Obj) (hgrow : (w.alloc o).grownBy w1 v.ownBlock) {g n cap : Nat} (hown : w1.ownsRow B 5 1 (.slice (some ⟨g, 0, none⟩) n cap) n (B8 bs ++ B8 ns)) (hat : v.ownBlock = some g ∨ g = w.heap.size + 1) :
    Wr B (w1.setCell ⟨p, 0, none⟩ (.slice (some ⟨g, 0, none⟩) n cap)) p (some g) (bs ++ ns) e ∧ (some g = v.ownBlock ∨ ∃ k, w.heap.size ≤ k ∧ some g = some k) ∧
    Kept (fun k => k = p ∨ v.ownBlock = some k) w (w1.setCell ⟨p, 0, none⟩ (.slice (some ⟨g, 0, none⟩) n cap)) := by
  have hp := (Array.getElem?_eq_some_iff.1 h1).1
  have hb := push_block h1 hw o hgrow
  have hne : g ≠ p := by
    rcases hat with h | h
    · intro e; subst e; exact hw.ne h
    · omega
  have hn : n = (bs ++ ns).length := by
    have := hown.1
    simp at this
    simp
    omega
  refine ⟨⟨_, heap_setCell_same hb, rfl, ?_⟩, ?_, ?_⟩
  · rw [← hn]
    have h2 : (w1.setCell ⟨p, 0, none⟩ (.slice (some ⟨g, 0, none⟩) n cap)).ownsRow B 5 1 (.slice (some ⟨g, 0, none⟩) n cap) n (B8 bs ++ B8 ns) :=
      ownsRow_kept hown (S := fun k => k = p) ⟨rfl, rfl, rfl, by simp [World.setCell], fun k _ hn => Below.heap_setCell _ _ _ _ hn⟩ (by intro k hk; simp [Value.ownBlock] at hk; omega)
    simpa using h2
  · rcases hat with h | h
    · exact .inl h.symm
    · exact .inr ⟨g, by omega, rfl⟩
  · refine Kept.setCell (Kept.grown ((Kept.refl _ w).alloc o) hgrow ?_) ?_ _
    · intro k _ hk; exact .inr hk
    · intro _; exact .inl rfl

end Go.Proofs.Ytiammlngbejhkaa

namespace Go.Proofs.Ytiammlngbejhkaa
open Go.RowKit

/-- A value of the program. -/
abbrev vl (k i : Int) (s : ByteArray) : Value := .agg #[.int .i64 k, .int .i64 i, .string s]

/-- What it says by its kind alone. -/
def thing (k i : Int) (s : ByteArray) : Value := if k = 1 then .iface 60 (.int .i64 i) else if k = 2 then .iface 62 (.string s) else .nilIface

theorem thing1 (i : Int) (s : ByteArray) : thing 1 i s = .iface 60 (.int .i64 i) := rfl
theorem thing2 (i : Int) (s : ByteArray) : thing 2 i s = .iface 62 (.string s) := rfl
theorem thing0 {k : Int} (i : Int) (s : ByteArray) (h1 : k ≠ 1) (h2 : k ≠ 2) : thing k i s = .nilIface := by simp [thing, h1, h2]

/-- The cells of a value in its block behind a call. -/
theorem vcells {w w1 : World} {a b c : Value} {B : Nat} (h : Below B (w.alloc (.cells #[a, b, c] 23)) w1) (hB : w.heap.size < B) :
    w1.cell? ⟨w.heap.size, 0, none⟩ = some a ∧ w1.cell? ⟨w.heap.size, 1, none⟩ = some b ∧ w1.cell? ⟨w.heap.size, 2, none⟩ = some c := by
  have hb : w1.heap[w.heap.size]? = some (.cells #[a, b, c] 23 (0, 0)) := by
    rw [h.block _ hB]; exact heap_alloc_new w _
  refine ⟨?_, ?_, ?_⟩ <;> (rw [cell_of_row w1 _ _ _ _ _ hb]; rfl)

theorem below1 (w : World) (o : Obj) : Below w.heap.size w (w.alloc o) := (Below.refl _ w).alloc (Nat.le_refl _) o

theorem vfacts {w : World} {r : Nat} {a b c : Value} {t : TypeId} (h : w.heap[r]? = some (.cells #[a, b, c] t (0, 0))) :
    w.cell? ⟨r, 0, none⟩ = some a ∧ w.cell? ⟨r, 1, none⟩ = some b ∧ w.cell? ⟨r, 2, none⟩ = some c ∧ ∀ o, w.frozen? ⟨r, o, none⟩ = false := by
  refine ⟨?_, ?_, ?_, fun o => by simp [World.frozen?, h]⟩ <;> (rw [cell_of_row w _ _ _ _ _ h]; rfl)

theorem blk_of {B : Nat} {w w1 : World} {r : Nat} {o : Obj} (h : Below B w w1) (hr : w.heap[r]? = some o) (hB : r < B) : w1.heap[r]? = some o := (h.block r hB).trans hr

theorem lt_of {w : World} {r : Nat} {o : Obj} (h : w.heap[r]? = some o) : r < w.heap.size := (Array.getElem?_eq_some_iff.1 h).1

theorem two1 (w : World) (o p : Obj) : ((w.alloc o).alloc p).heap[w.heap.size]? = some o := by
  rw [Below.heap_alloc _ _ _ (by simp)]; exact heap_alloc_new w o

theorem two2 (w : World) (o p : Obj) : ((w.alloc o).alloc p).heap[w.heap.size + 1]? = some p := by
  have := heap_alloc_new (w.alloc o) p
  simpa using this

theorem below2 (w : World) (o p : Obj) : Below w.heap.size w ((w.alloc o).alloc p) := (below1 w o).alloc (by simp) p

theorem set3 {w : World} {r : Nat} {a b c : Value} {t : TypeId} (h : w.heap[r]? = some (.cells #[a, b, c] t (0, 0))) (x y z : Value) :
    (((w.setCell ⟨r, 0, none⟩ x).setCell ⟨r, 1, none⟩ y).setCell ⟨r, 2, none⟩ z).heap[r]? = some (.cells #[x, y, z] t (0, 0)) := by
  simp [World.setCell, Array.getElem?_modify, h]

theorem Below.set3 {B : Nat} {w w1 : World} {r : Nat} (h : Below B w w1) (hr : B ≤ r) (x y z : Value) : Below B w (((w1.setCell ⟨r, 0, none⟩ x).setCell ⟨r, 1, none⟩ y).setCell ⟨r, 2, none⟩ z) :=
  ((h.setCell (p := ⟨r, 0, none⟩) hr x).setCell (p := ⟨r, 1, none⟩) hr y).setCell (p := ⟨r, 2, none⟩) hr z

set_option maxRecDepth 100000 in
theorem load_agg {w : World} {r : Nat} {a b c : Value} (hb : w.heap[r]? = some (.cells #[a, b, c] 23 (0, 0))) : (loadVar 23 ⟨r, 0, none⟩).run Try.prog w = .ok (.agg #[a, b, c]) w := by
  obtain ⟨c0, c1, c2, _⟩ := vfacts hb
  simp [go_sem, c0, c1, c2]

theorem ret_agg {fn : Func} {p : Tmp} (h : fn.results = #[.cell p 23]) {tmps : Array Value} {r : Nat} {w : World} {a b c : Value} (ht : tmps.getD p undef = .pointer (some ⟨r, 0, none⟩)) (hb : w.heap[r]? = some (.cells #[a, b, c] 23 (0, 0))) :
    (results fn tmps).run Try.prog w = .ok (.agg #[a, b, c]) w := by
  have ht2 := ht
  simp only [Array.getD_eq_getD_getElem?] at ht2
  simp only [results, h]
  simp [ht2, load_agg hb, asAddr]

theorem ret_agg2 {fn : Func} {p u : Tmp} (h : fn.results = #[.cell p 23, .tmp u]) {tmps : Array Value} {r : Nat} {w : World} {a b c : Value} (ht : tmps.getD p undef = .pointer (some ⟨r, 0, none⟩)) (hb : w.heap[r]? = some (.cells #[a, b, c] 23 (0, 0))) :
    (results fn tmps).run Try.prog w = .ok (.tuple #[.agg #[a, b, c], tmps.getD u undef]) w := by
  rw [results_cell_tmp h, ht]
  simp [Result.andThen, load_agg hb, asAddr]

set_option maxRecDepth 100000 in
set_option maxHeartbeats 800000 in
theorem thingOf_any (k i : Int) (s : ByteArray) (w : World) : Calls Try.prog 37 #[vl k i s] w fun x w' => x = .returned (thing k i s) ∧ Below w.heap.size w w' := by
  have hb := hid (below1 w (Obj.cells #[Value.int IntKind.i64 k, Value.int IntKind.i64 i, Value.string s] 23))
  by_cases h1 : k = 1
  · subst h1
    go_enter Try.func37, Try.ntmps37
    go_wp2
    go_ret
    exact ⟨rfl, hb.out⟩
  · by_cases h2 : k = 2
    · subst h2
      go_enter Try.func37, Try.ntmps37
      go_wp2
      go_ret
      exact ⟨rfl, hb.out⟩
    · go_enter Try.func37, Try.ntmps37
      have e1 : (k == 1) = false := by simpa using h1
      have e2 : (k == 2) = false := by simpa using h2
      go_wp2
      go_ret
      exact ⟨by rw [thing0 i s h1 h2]; rfl, hb.out⟩

set_option maxRecDepth 100000 in
set_option maxHeartbeats 800000 in
theorem ivalue_any (i : Int) (w : World) : Calls Try.prog 77 #[.int .i64 i] w fun x w' => x = .returned (vl 1 i ⟨#[]⟩) ∧ Below w.heap.size w w' := by
  go_enter Try.func77, Try.ntmps77
  go_wp2
  go_returns
  exact ⟨rfl, below1 w _⟩

set_option maxRecDepth 100000 in
set_option maxHeartbeats 800000 in
theorem tvalue_any (s : ByteArray) (w : World) : Calls Try.prog 48 #[.string s] w fun x w' => x = .returned (vl 2 0 s) ∧ Below w.heap.size w w' := by
  go_enter Try.func48, Try.ntmps48
  go_wp2
  go_returns
  exact ⟨rfl, below1 w _⟩

end Go.Proofs.Ytiammlngbejhkaa

namespace Go.Proofs.Ytiammlngbejhkaa
open Go.RowKit

/-- A value without what its kind does not have. -/
def plainV (k i : Int) (s : ByteArray) : Value := if k = 1 then vl 1 i ⟨#[]⟩ else if k = 2 then vl 2 0 s else vl 0 0 ⟨#[]⟩

set_option maxRecDepth 100000 in
set_option maxHeartbeats 800000 in
theorem plain_any (k i : Int) (s : ByteArray) (w : World) : Calls Try.prog 35 #[vl k i s] w fun x w' => x = .returned (plainV k i s) ∧ Below w.heap.size w w' := by
  have hB0 := hid (below2 w (Obj.cells #[Value.int IntKind.i64 k, Value.int IntKind.i64 i, Value.string s] 23) (Obj.cells #[Value.int IntKind.i64 0, Value.int IntKind.i64 0, Value.string { data := #[] }] 23))
  have hR0 := hid (two2 w (Obj.cells #[Value.int IntKind.i64 k, Value.int IntKind.i64 i, Value.string s] 23) (Obj.cells #[Value.int IntKind.i64 0, Value.int IntKind.i64 0, Value.string { data := #[] }] 23))
  by_cases h1 : k = 1
  · subst h1
    go_enter Try.func35, Try.ntmps35
    go_wp2_with (first
      | (go_at_call 37
         refine (thingOf_any 1 i s _).mono ?_
         rintro e w1 ⟨rfl, hb1⟩
         rw [thing1]
         have H1 := hid (And.intro (blk_of hb1 hR0.out (by simp)) (hB0.out.trans (hb1.mono hB0.out.size)))
         clear hb1)
      | (go_at_call 77
         refine (ivalue_any i _).mono ?_
         rintro e w2 ⟨rfl, hb2⟩
         have hr2 := blk_of hb2 H1.out.1 (lt_of H1.out.1)
         obtain ⟨c0, c1, c2, ff⟩ := vfacts hr2
         have H2 := hid (And.intro hr2 (H1.out.2.trans (hb2.mono H1.out.2.size)))
         clear hb2 hr2))
    refine bodyPost_ret (ret_agg Try.results35 rfl (set3 H2.out.1 _ _ _)) rfl ?_
    exact ⟨rfl, Below.set3 H2.out.2 (by simp) _ _ _⟩
  · by_cases h2 : k = 2
    · subst h2
      go_enter Try.func35, Try.ntmps35
      go_wp2_with (first
        | (go_at_call 37
           refine (thingOf_any 2 i s _).mono ?_
           rintro e w1 ⟨rfl, hb1⟩
           rw [thing2]
           have H1 := hid (And.intro (blk_of hb1 hR0.out (by simp)) (hB0.out.trans (hb1.mono hB0.out.size)))
           clear hb1)
        | (go_at_call 48
           refine (tvalue_any s _).mono ?_
           rintro e w2 ⟨rfl, hb2⟩
           have hr2 := blk_of hb2 H1.out.1 (lt_of H1.out.1)
           obtain ⟨c0, c1, c2, ff⟩ := vfacts hr2
           have H2 := hid (And.intro hr2 (H1.out.2.trans (hb2.mono H1.out.2.size)))
           clear hb2 hr2))
      refine bodyPost_ret (ret_agg Try.results35 rfl (set3 H2.out.1 _ _ _)) rfl ?_
      exact ⟨rfl, Below.set3 H2.out.2 (by simp) _ _ _⟩
    · go_enter Try.func35, Try.ntmps35
      go_wp2_with (go_at_call 37
                   refine (thingOf_any k i s _).mono ?_
                   rintro e w1 ⟨rfl, hb1⟩
                   rw [thing0 i s h1 h2]
                   have hr1 := blk_of hb1 hR0.out (by simp)
                   obtain ⟨c0, c1, c2, ff⟩ := vfacts hr1
                   have H1 := hid (And.intro hr1 (hB0.out.trans (hb1.mono hB0.out.size)))
                   clear hb1 hr1)
      refine bodyPost_ret (ret_agg Try.results35 rfl (set3 H1.out.1 _ _ _)) rfl ?_
      exact ⟨by simp [plainV, h1, h2], Below.set3 H1.out.2 (by simp) _ _ _⟩

/-- Why a value is none. -/
def chk (k i : Int) (s : ByteArray) : Int :=
  if k = 1 then (if s = ⟨#[]⟩ then 0 else 14) else if k = 2 then (if i = 0 then (if 256 < s.size then 4 else 0) else 14) else if k = 0 ∧ i = 0 ∧ s = ⟨#[]⟩ then 0 else 14

end Go.Proofs.Ytiammlngbejhkaa

namespace Go.Proofs.Ytiammlngbejhkaa
open Go.RowKit

theorem str_ne {s : ByteArray} (h : s ≠ ⟨#[]⟩) : s.toList ≠ [] := by
  intro e
  apply h
  rw [ByteArray.toList_eq] at e
  obtain ⟨⟨x⟩⟩ := s
  simp at e
  simp [e]

theorem str_ne2 {s : ByteArray} (h : s ≠ ⟨#[]⟩) : (s == (⟨#[]⟩ : ByteArray)) = false ∧ s.toList ≠ [] ∧ s.toList.isEmpty = false ∧ (s.toList == []) = false := by
  have h2 := str_ne h
  refine ⟨?_, h2, ?_, ?_⟩
  · rw [beq_toListBytes]
    rw [show (⟨#[]⟩ : ByteArray).toList = [] by rw [ByteArray.toList_eq]]
    cases hx : s.toList <;> simp_all
  · cases hx : s.toList <;> simp_all
  · cases hx : s.toList <;> simp_all

theorem emp_toList : (⟨#[]⟩ : ByteArray).toList = [] := by rw [ByteArray.toList_eq]

set_option maxRecDepth 100000 in
set_option maxHeartbeats 800000 in
theorem check_core (k i : Int) (s : ByteArray) (w : World) (a b : Int) (c : ByteArray) (hp : plainV k i s = vl a b c) (r : Int)
    (hc : (k == a) = false ∧ r = 14 ∨ (k == a) = true ∧ (i == b) = false ∧ r = 14 ∨ (k == a) = true ∧ (i == b) = true ∧ (s.toList == c.toList) = false ∧ r = 14 ∨
      (k == a) = true ∧ (i == b) = true ∧ (s.toList == c.toList) = true ∧ ((s.size : Int) ≤ 256 ∧ r = 0 ∨ (256 : Int) < s.size ∧ r = 4)) :
    Calls Try.prog 10 #[vl k i s] w fun x w' => x = .returned (.int .i64 r) ∧ Below w.heap.size w w' := by
  have hB0 := hid (below1 w (Obj.cells #[Value.int IntKind.i64 k, Value.int IntKind.i64 i, Value.string s] 23))
  have hR0 := hid (heap_alloc_new w (Obj.cells #[Value.int IntKind.i64 k, Value.int IntKind.i64 i, Value.string s] 23))
  have HP := hid hp
  clear hp
  rcases hc with ⟨h1, rfl⟩ | ⟨h1, h2, rfl⟩ | ⟨h1, h2, h3, rfl⟩ | ⟨h1, h2, h3, ⟨hg, rfl⟩ | ⟨hg, rfl⟩⟩
  all_goals
      go_enter Try.func10, Try.ntmps10
      go_wp2
      go_region_held (fun w' => w'.cell? ⟨w.heap.size, 0, none⟩ = some (.int .i64 k) ∧ w'.cell? ⟨w.heap.size, 1, none⟩ = some (.int .i64 i) ∧ w'.cell? ⟨w.heap.size, 2, none⟩ = some (.string s)) (go_keep) (first
              | (go_at_call 35
                 refine (plain_any k i s _).mono ?_
                 rintro e w1 ⟨rfl, hb1⟩
                 rw [HP.out]
                 have hb1' : Below (w.alloc (Obj.cells #[Value.int IntKind.i64 k, Value.int IntKind.i64 i, Value.string s] 23)).heap.size (w.alloc (Obj.cells #[Value.int IntKind.i64 k, Value.int IntKind.i64 i, Value.string s] 23)) w1 := ⟨hb1.os, hb1.tape, hb1.output, hb1.size, hb1.block⟩
                 have hr1 := blk_of hb1' hR0.out (by simp)
                 obtain ⟨c0, c1, c2, ff⟩ := vfacts hr1
                 have H1 := hid (And.intro hr1 (hB0.out.trans (hb1'.mono hB0.out.size)))
                 clear hb1 hb1' hr1))
      go_wp2
      go_ret
      exact ⟨rfl, H1.out.2⟩

theorem toList_inj {a b : ByteArray} (h : a.toList = b.toList) : a = b := by
  rw [ByteArray.toList_eq, ByteArray.toList_eq] at h
  obtain ⟨⟨x⟩⟩ := a
  obtain ⟨⟨y⟩⟩ := b
  simp at h
  simp [h]

theorem check_any (k i : Int) (s : ByteArray) (w : World) : Calls Try.prog 10 #[vl k i s] w fun x w' => x = .returned (.int .i64 (chk k i s)) ∧ Below w.heap.size w w' := by
  have hse : s ≠ ⟨#[]⟩ → (s.toList == (⟨#[]⟩ : ByteArray).toList) = false := by
    intro h
    rw [emp_toList]
    exact (str_ne2 h).2.2.2
  by_cases h1 : k = 1
  · subst h1
    refine check_core 1 i s w 1 i ⟨#[]⟩ rfl _ ?_
    by_cases hs : s = ⟨#[]⟩
    · subst hs
      exact .inr (.inr (.inr ⟨by simp, by simp, by simp, .inl ⟨by decide, by simp [chk]⟩⟩))
    · exact .inr (.inr (.inl ⟨by simp, by simp, hse hs, by simp [chk, hs]⟩))
  · by_cases h2 : k = 2
    · subst h2
      refine check_core 2 i s w 2 0 s rfl _ ?_
      by_cases hi : i = 0
      · subst hi
        by_cases hg : 256 < s.size
        · exact .inr (.inr (.inr ⟨by simp, by simp, by simp, .inr ⟨by omega, by simp [chk, hg]⟩⟩))
        · exact .inr (.inr (.inr ⟨by simp, by simp, by simp, .inl ⟨by omega, by simp [chk, hg]⟩⟩))
      · exact .inr (.inl ⟨by simp, by simpa using hi, by simp [chk, hi]⟩)
    · refine check_core k i s w 0 0 ⟨#[]⟩ (by simp [plainV, h1, h2]) _ ?_
      by_cases hk : k = 0
      · subst hk
        by_cases hi : i = 0
        · subst hi
          by_cases hs : s = ⟨#[]⟩
          · subst hs
            exact .inr (.inr (.inr ⟨by simp, by simp, by simp, .inl ⟨by decide, by simp [chk]⟩⟩))
          · exact .inr (.inr (.inl ⟨by simp, by simp, hse hs, by simp [chk, hs]⟩))
        · exact .inr (.inl ⟨by simp, by simpa using hi, by simp [chk, hi]⟩)
      · exact .inl ⟨by simpa using hk, by simp [chk, h1, h2, hk]⟩

/-- What a value says; nothing, if it is none. -/
def chd (k i : Int) (s : ByteArray) : Value := if chk k i s = 0 then thing k i s else .nilIface

set_option maxRecDepth 100000 in
set_option maxHeartbeats 800000 in
theorem checked_any (k i : Int) (s : ByteArray) (w : World) : Calls Try.prog 47 #[vl k i s] w fun x w' => x = .returned (chd k i s) ∧ Below w.heap.size w w' := by
  have hB0 := hid (below1 w (Obj.cells #[Value.int IntKind.i64 k, Value.int IntKind.i64 i, Value.string s] 23))
  have hR0 := hid (heap_alloc_new w (Obj.cells #[Value.int IntKind.i64 k, Value.int IntKind.i64 i, Value.string s] 23))
  obtain ⟨r, hr⟩ : ∃ r, r = chk k i s := ⟨_, rfl⟩
  have hch := check_any k i s
  rw [← hr] at hch
  have HC := hid hch
  have HR := hid hr
  clear hch hr
  by_cases h0 : r = 0
  · subst h0
    go_enter Try.func47, Try.ntmps47
    go_wp2_with (first
      | (go_at_call 10
         refine (HC.out _).mono ?_
         rintro e w1 ⟨rfl, hb1⟩
         have hr1 := blk_of hb1 hR0.out (by simp)
         obtain ⟨c0, c1, c2, ff⟩ := vfacts hr1
         have H1 := hid (hB0.out.trans (hb1.mono hB0.out.size))
         clear hb1 hr1)
      | (go_at_call 37
         refine (thingOf_any k i s _).mono ?_
         rintro e w2 ⟨rfl, hb2⟩))
    go_ret
    exact ⟨by simp [chd, ← HR.out], H1.out.trans (hb2.mono H1.out.size)⟩
  · have hb : (r == 0) = false := by simpa using h0
    go_enter Try.func47, Try.ntmps47
    go_wp2_with (
         go_at_call 10
         refine (HC.out _).mono ?_
         rintro e w1 ⟨rfl, hb1⟩
         have H1 := hid (hB0.out.trans (hb1.mono hB0.out.size))
         clear hb1)
    go_ret
    exact ⟨by simp [chd, ← HR.out, h0], H1.out⟩

end Go.Proofs.Ytiammlngbejhkaa

namespace Go.Proofs.Ytiammlngbejhkaa
open Go.RowKit

/-- Two integers, held against each other. -/
def cmpI (a b : Int) : Int := if a < b then -1 else if b < a then 1 else 0

/-- Two texts. -/
abbrev cmpS (a b : ByteArray) : Int := Lib.compareBytes a.data.toList b.data.toList

set_option maxRecDepth 100000 in
set_option maxHeartbeats 800000 in
theorem isNaN_int (a : Int) (w : World) : Calls Try.prog 68 #[.int .i64 a] w fun x w' => x = .returned (.bool false) ∧ w' = w := by
  go_enter Try.func68, Try.ntmps68
  go_wp2
  go_ret
  exact ⟨by simp, rfl⟩

set_option maxRecDepth 100000 in
set_option maxHeartbeats 800000 in
theorem isNaN_int64 (a : Int) (w : World) : Calls Try.prog 69 #[.int .i64 a] w fun x w' => x = .returned (.bool false) ∧ w' = w := by
  go_enter Try.func69, Try.ntmps69
  go_wp2
  go_ret
  exact ⟨by simp, rfl⟩

set_option maxRecDepth 100000 in
set_option maxHeartbeats 800000 in
theorem cmp_int (a b : Int) (w : World) : Calls Try.prog 36 #[.int .i64 a, .int .i64 b] w fun x w' => x = .returned (.int .i64 (cmpI a b)) ∧ w' = w := by
  obtain ⟨r, hr⟩ : ∃ r, r = cmpI a b := ⟨_, rfl⟩
  rw [← hr]
  have HR := hid hr
  clear hr
  rcases Int.lt_trichotomy a b with h | h | h
  all_goals
    go_enter Try.func36, Try.ntmps36
    go_wp2_with (
      go_at_call 68
      refine (isNaN_int _ _).mono ?_
      rintro e w1 ⟨rfl, e1⟩
      rw [e1]
      clear e1 w1)
    go_ret
    refine ⟨?_, rfl⟩
    rw [HR.out]
    first
      | (rw [show cmpI a b = -1 by unfold cmpI; rw [if_pos h]]; rfl)
      | (rw [show cmpI a b = 0 by unfold cmpI; rw [if_neg (by omega), if_neg (by omega)]]; rfl)
      | (rw [show cmpI a b = 1 by unfold cmpI; rw [if_neg (by omega), if_pos h]]; rfl)

set_option maxRecDepth 100000 in
set_option maxHeartbeats 800000 in
theorem cmp_int64 (a b : Int) (w : World) : Calls Try.prog 38 #[.int .i64 a, .int .i64 b] w fun x w' => x = .returned (.int .i64 (cmpI a b)) ∧ w' = w := by
  obtain ⟨r, hr⟩ : ∃ r, r = cmpI a b := ⟨_, rfl⟩
  rw [← hr]
  have HR := hid hr
  clear hr
  rcases Int.lt_trichotomy a b with h | h | h
  all_goals
    go_enter Try.func38, Try.ntmps38
    go_wp2_with (
      go_at_call 69
      refine (isNaN_int64 _ _).mono ?_
      rintro e w1 ⟨rfl, e1⟩
      rw [e1]
      clear e1 w1)
    go_ret
    refine ⟨?_, rfl⟩
    rw [HR.out]
    first
      | (rw [show cmpI a b = -1 by unfold cmpI; rw [if_pos h]]; rfl)
      | (rw [show cmpI a b = 0 by unfold cmpI; rw [if_neg (by omega), if_neg (by omega)]]; rfl)
      | (rw [show cmpI a b = 1 by unfold cmpI; rw [if_neg (by omega), if_pos h]]; rfl)

set_option maxRecDepth 100000 in
set_option maxHeartbeats 800000 in
theorem cmpString_any (a b : ByteArray) (w : World) : Calls Try.prog 70 #[.string a, .string b] w fun x w' => x = .returned (.int .i64 (cmpS a b)) ∧ w' = w := by
  go_enter Try.func70, Try.ntmps70
  go_wp2
  rw [run_callFunc_extern Try.func97 (by kernel_rfl) (by kernel_rfl) (by kernel_rfl) (e := Extern.BytealgCompare.compare) (by kernel_rfl), Lib.run_compareString]
  simp only [Result.andThen]
  rw [Oper.upon_value]
  go_wp2
  go_ret
  exact ⟨rfl, rfl⟩

set_option maxRecDepth 100000 in
set_option maxHeartbeats 800000 in
theorem strCompare_any (a b : ByteArray) (w : World) : Calls Try.prog 39 #[.string a, .string b] w fun x w' => x = .returned (.int .i64 (cmpS a b)) ∧ w' = w := by
  go_enter Try.func39, Try.ntmps39
  go_wp2_with (
      go_at_call 70
      refine (cmpString_any _ _ _).mono ?_
      rintro e w1 ⟨rfl, e1⟩
      rw [e1]
      clear e1 w1)
  go_ret
  exact ⟨rfl, rfl⟩

/-- Two values, held against each other. -/
def cmpV (k i : Int) (s : ByteArray) (l j : Int) (t : ByteArray) : Int :=
  if cmpI k l ≠ 0 then cmpI k l else if k = 1 then cmpI i j else if k = 2 then cmpS s t else 0

end Go.Proofs.Ytiammlngbejhkaa

namespace Go.Proofs.Ytiammlngbejhkaa
open Go.RowKit

abbrev vo (k i : Int) (s : ByteArray) : Obj := .cells #[.int .i64 k, .int .i64 i, .string s] 23

theorem ta60 (v : Value) (w : World) : (Instr.typeAssert (.iface 60 v) 58 60 true).run Try.prog w = .ok (.tuple #[v, .bool true]) w := by kernel_rfl
theorem ta6260 (v : Value) (w : World) : (Instr.typeAssert (.iface 62 v) 58 60 true).run Try.prog w = .ok (.tuple #[.int .i64 0, .bool false]) w := by kernel_rfl
theorem ta62 (v : Value) (w : World) : (Instr.typeAssert (.iface 62 v) 58 62 true).run Try.prog w = .ok (.tuple #[v, .bool true]) w := by kernel_rfl
theorem ta6062 (v : Value) (w : World) : (Instr.typeAssert (.iface 60 v) 58 62 true).run Try.prog w = .ok (.tuple #[.string ⟨#[]⟩, .bool false]) w := by kernel_rfl
theorem tan60 (w : World) : (Instr.typeAssert .nilIface 58 60 true).run Try.prog w = .ok (.tuple #[.int .i64 0, .bool false]) w := by kernel_rfl
theorem tan62 (w : World) : (Instr.typeAssert .nilIface 58 62 true).run Try.prog w = .ok (.tuple #[.string ⟨#[]⟩, .bool false]) w := by kernel_rfl

set_option maxRecDepth 100000 in
set_option maxHeartbeats 800000 in
theorem compare_any (k i : Int) (s : ByteArray) (l j : Int) (t : ByteArray) (w : World) : Calls Try.prog 12 #[vl k i s, vl l j t] w fun x w' => x = .returned (.int .i64 (cmpV k i s l j t)) ∧ Below w.heap.size w w' := by
  have hB0 := hid (below2 w (vo k i s) (vo l j t))
  have hR0 := hid (two2 w (vo k i s) (vo l j t))
  obtain ⟨c, hc⟩ : ∃ c, c = cmpI k l := ⟨_, rfl⟩
  have hcc : Hid (∀ w, Calls Try.prog 36 #[.int .i64 k, .int .i64 l] w fun x w' => x = .returned (.int .i64 c) ∧ w' = w) := hid (by rw [hc]; exact cmp_int k l)
  have HC := hid hc
  clear hc
  have q1 := ta60
  have q2 := ta6260
  have q3 := ta62
  have q4 := tan60
  have q5 := tan62
  by_cases h0 : c = 0
  · subst h0
    by_cases h1 : k = 1
    · subst h1
      go_enter Try.func12, Try.ntmps12
      go_wp2_with (first
        | (go_at_call 36
           refine (hcc.out _).mono ?_
           rintro e w1 ⟨rfl, e1⟩
           rw [e1]
           clear e1 w1)
        | (go_at_call 37
           refine (thingOf_any 1 i s _).mono ?_
           rintro e w1 ⟨rfl, hb1⟩
           rw [thing1]
           have hr1 := blk_of hb1 hR0.out (by simp)
           obtain ⟨c0, c1, c2, ff⟩ := vfacts hr1
           have H1 := hid (hB0.out.trans (hb1.mono hB0.out.size))
           clear hb1 hr1)
        | (go_at_call 38
           refine (cmp_int64 _ _ _).mono ?_
           rintro e w2 ⟨rfl, e2⟩
           rw [e2]
           clear e2 w2))
      go_ret
      exact ⟨by simp [cmpV, ← HC.out], H1.out⟩
    · by_cases h2 : k = 2
      · subst h2
        go_enter Try.func12, Try.ntmps12
        go_wp2_with (first
          | (go_at_call 36
             refine (hcc.out _).mono ?_
             rintro e w1 ⟨rfl, e1⟩
             rw [e1]
             clear e1 w1)
          | (go_at_call 37
             refine (thingOf_any 2 i s _).mono ?_
             rintro e w1 ⟨rfl, hb1⟩
             rw [thing2]
             have hr1 := blk_of hb1 hR0.out (by simp)
             obtain ⟨c0, c1, c2, ff⟩ := vfacts hr1
             have H1 := hid (hB0.out.trans (hb1.mono hB0.out.size))
             clear hb1 hr1)
          | (go_at_call 39
             refine (strCompare_any _ _ _).mono ?_
             rintro e w2 ⟨rfl, e2⟩
             rw [e2]
             clear e2 w2))
        go_ret
        exact ⟨by simp [cmpV, ← HC.out], H1.out⟩
      · go_enter Try.func12, Try.ntmps12
        go_wp2_with (first
          | (go_at_call 36
             refine (hcc.out _).mono ?_
             rintro e w1 ⟨rfl, e1⟩
             rw [e1]
             clear e1 w1)
          | (go_at_call 37
             refine (thingOf_any k i s _).mono ?_
             rintro e w1 ⟨rfl, hb1⟩
             rw [thing0 i s h1 h2]
             have H1 := hid (hB0.out.trans (hb1.mono hB0.out.size))
             clear hb1))
        go_ret
        exact ⟨by simp [cmpV, ← HC.out, h1, h2], H1.out⟩
  · have hb : (c == 0) = false := by simpa using h0
    go_enter Try.func12, Try.ntmps12
    go_wp2_with (
           go_at_call 36
           refine (hcc.out _).mono ?_
           rintro e w1 ⟨rfl, e1⟩
           rw [e1]
           clear e1 w1)
    go_ret
    exact ⟨by simp [cmpV, ← HC.out, h0], hB0.out⟩

end Go.Proofs.Ytiammlngbejhkaa

/-
  DERIVED: THE SHELF's CONTRACTS AT THIS DUMP, IN PLAIN WORDS (tools/lay-plain.mjs out of 'YtiammlngbejhkaaLaysRaw.lean', which tools/lay-shelf.mjs wrote): THE SAME DECLARATIONS UNDER THE SAME NAMES: 'import', 'namespace', 'open', 'def', 'theorem' AND NOTHING ELSE: no command of the shelf's: FOR A HAND-IN. Each laying: the table of numbers ('.._ren') and one theorem, a field a fact of the dump's own or the kernel's comparison; each contract: ONE APPLICATION.
-/
namespace Go.Proofs
open Go.Shelf
def Try.laysM316_ren : Go.Shelf.Ren := ⟨fun | 316 => 81 | n => n, fun | 9 => 9 | 3 => 3 | 4 => 4 | 37 => 40 | 0 => 0 | 127 => 133 | 5 => 5 | n => n, fun | n => n⟩
theorem Try.laysM316 : Go.Proofs.LaysM.n316 Try.prog Try.laysM316_ren := {
  mixed := by kernel_rfl
  f316 := Try.func81.trans (congrArg some (by kernel_rfl))
  t0 := Try.underlying0
  a0 := Try.isAgg0
  z0 := Try.sizeOf0
  v0 := Try.zeroValue0
  t3 := Try.underlying3
  a3 := Try.isAgg3
  z3 := Try.sizeOf3
  v3 := Try.zeroValue3
  t4 := Try.underlying4
  a4 := Try.isAgg4
  z4 := Try.sizeOf4
  v4 := Try.zeroValue4
  t9 := Try.underlying9
  a9 := Try.isAgg9
  z9 := Try.sizeOf9
  v9 := Try.zeroValue9
  t37 := Try.underlying40
  a37 := Try.isAgg40
  z37 := Try.sizeOf40
  v37 := Try.zeroValue40
  t127 := Try.underlying133
  a127 := Try.isAgg133
  z127 := Try.sizeOf133
  v127 := Try.zeroValue133
  t5 := Try.underlying5
  a5 := Try.isAgg5
  z5 := Try.sizeOf5
  v5 := Try.zeroValue5
  i0 := by kernel_rfl
  i3 := by kernel_rfl
  i4 := by kernel_rfl
  i5 := by kernel_rfl
  i9 := by kernel_rfl
  i37 := by kernel_rfl
  i127 := by kernel_rfl }
def Try.lays264_ren : Go.Shelf.Ren := ⟨fun | 264 => 78 | n => n, fun | 53 => 108 | 46 => 132 | n => n, fun | n => n⟩
theorem Try.lays264 : Go.Proofs.Lays.n264 Try.prog Try.lays264_ren := {
  mixed := by kernel_rfl
  f264 := Try.func78.trans (congrArg some (by kernel_rfl))
  t46 := Try.underlying132
  a46 := Try.isAgg132
  z46 := Try.sizeOf132
  v46 := Try.zeroValue132
  t53 := Try.underlying108
  a53 := Try.isAgg108
  z53 := Try.sizeOf108
  v53 := Try.zeroValue108 }
end Go.Proofs

namespace Go.Proofs.Ytiammlngbejhkaa
open Go.RowKit

abbrev emp : ByteArray := ⟨#[]⟩

theorem chd_cases (k i : Int) (s : ByteArray) : (k = 1 ∧ s = emp ∧ chd k i s = .iface 60 (.int .i64 i)) ∨ (k = 2 ∧ i = 0 ∧ s.size ≤ 256 ∧ chd k i s = .iface 62 (.string s)) ∨
    (chd k i s = .nilIface ∧ ¬ (k = 1 ∧ s = emp) ∧ ¬ (k = 2 ∧ i = 0 ∧ s.size ≤ 256)) := by
  unfold chd
  by_cases h1 : k = 1
  · subst h1
    by_cases hs : s = emp
    · subst hs
      exact .inl ⟨rfl, rfl, by simp [chk, thing]⟩
    · exact .inr (.inr ⟨by simp [chk, hs], by simp [hs], by simp⟩)
  · by_cases h2 : k = 2
    · subst h2
      by_cases hi : i = 0
      · subst hi
        by_cases hg : 256 < s.size
        · exact .inr (.inr ⟨by simp [chk, hg], by simp, by simp; omega⟩)
        · exact .inr (.inl ⟨rfl, rfl, by omega, by simp [chk, hg, thing]⟩)
      · exact .inr (.inr ⟨by simp [chk, hi], by simp, by simp [hi]⟩)
    · refine .inr (.inr ⟨?_, by simp [h1], by simp [h2]⟩)
      split
      · exact thing0 i s h1 h2
      · rfl

theorem three (w : World) (a b c : Obj) : (((w.alloc a).alloc b).alloc c).heap[w.heap.size]? = some a ∧ (((w.alloc a).alloc b).alloc c).heap[w.heap.size + 1]? = some b ∧
    (((w.alloc a).alloc b).alloc c).heap[w.heap.size + 1 + 1]? = some c ∧ Below w.heap.size w (((w.alloc a).alloc b).alloc c) := by
  refine ⟨?_, ?_, ?_, (below2 w a b).alloc (by simp; omega) c⟩
  · rw [Below.heap_alloc _ _ _ (by simp; omega)]; exact two1 w a b
  · rw [Below.heap_alloc _ _ _ (by simp)]; exact two2 w a b
  · have := heap_alloc_new ((w.alloc a).alloc b) c
    simpa using this

theorem blk_drewN {B : Nat} {w w1 : World} {r m : Nat} {o : Obj} (h : Below B (w.drewN m) w1) (hr : w.heap[r]? = some o) (hB : r < B) : w1.heap[r]? = some o := (h.block r hB).trans hr

theorem below_on {w0 w w1 : World} (h0 : Below w0.heap.size w0 w) (h : Below w.heap.size w w1) : Below w0.heap.size w0 w1 := h0.trans (h.mono h0.size)

theorem below_drewN {w0 w w1 : World} {m : Nat} (h0 : Below w0.heap.size w0 w) (h : Below w.heap.size (w.drewN m) w1) : Below w0.heap.size w0 w1 := by
  have h' : Below w.heap.size w w1 := ⟨h.os, h.tape, h.output, h.size, h.block⟩
  exact below_on h0 h'

set_option maxRecDepth 100000 in
set_option maxHeartbeats 800000 in
theorem sum_any (x y : Int) (w : World) : Calls Try.prog 42 #[.int .i64 x, .int .i64 y] w fun e w' => e = .returned (.tuple #[.int .i64 (wrap64 (x + y)), .bool (decide (x < wrap64 (x + y)) == decide (0 < y))]) ∧ w' = w := by
  go_enter Try.func42, Try.ntmps42
  go_wp2
  go_ret2
  exact ⟨rfl, rfl⟩

set_option maxRecDepth 100000 in
set_option maxHeartbeats 800000 in
theorem diff_any (x y : Int) (w : World) : Calls Try.prog 45 #[.int .i64 x, .int .i64 y] w fun e w' => e = .returned (.tuple #[.int .i64 (wrap64 (x - y)), .bool (decide (wrap64 (x - y) < x) == decide (0 < y))]) ∧ w' = w := by
  go_enter Try.func45, Try.ntmps45
  go_wp2
  go_ret2
  exact ⟨rfl, rfl⟩

set_option maxRecDepth 100000 in
set_option maxHeartbeats 800000 in
theorem size_any (x : Int) (w : World) (h0 : -9223372036854775808 ≤ x) (h1 : x ≤ 9223372036854775807) : Calls Try.prog 79 #[.int .i64 x] w fun e w' => e = .returned (.int .u64 (x.natAbs : Nat)) ∧ w' = w := by
  by_cases hx : x < 0
  · go_enter Try.func79, Try.ntmps79
    go_wp2
    go_ret
    refine ⟨?_, rfl⟩
    have : IntKind.u64.wrap (-IntKind.u64.wrap x) = (x.natAbs : Int) := by
      rw [IntKind.wrap_u64, IntKind.wrap_u64]; omega
    rw [← this]
    rfl
  · go_enter Try.func79, Try.ntmps79
    go_wp2
    go_ret
    refine ⟨?_, rfl⟩
    have : x = (x.natAbs : Int) := by omega
    rw [← this]
    rfl

theorem mul64_any (x y : Nat) (hx : x < 18446744073709551616) (hy : y < 18446744073709551616) (w : World) :
    Calls Try.prog 78 #[.int .u64 x, .int .u64 y] w fun e w' => e = .returned (.tuple #[.int .u64 ((x * y / 18446744073709551616 : Nat) : Int), .int .u64 ((x * y % 18446744073709551616 : Nat) : Int)]) ∧ w' = w :=
  Any.bits_Mul64 Try.lays264 x y hx hy w

theorem sliteClone_any (s : ByteArray) (w : World) (hlim : s.size ≤ 281474976710656) :
    Calls Try.prog 81 #[.string s] w fun e w' => e = .returned (.string s) ∧ Below w.heap.size w w' := Any.stringslite_Clone Try.laysM316 s w hlim

set_option maxRecDepth 100000 in
set_option maxHeartbeats 800000 in
theorem strClone_any (s : ByteArray) (w : World) (hlim : s.size ≤ 281474976710656) :
    Calls Try.prog 50 #[.string s] w fun e w' => e = .returned (.string s) ∧ Below w.heap.size w w' := by
  go_enter Try.func50, Try.ntmps50
  go_wp2_with (go_at_call 81; refine (sliteClone_any s _ hlim).mono ?_; rintro e w' ⟨rfl, hb⟩)
  go_ret
  exact ⟨rfl, hb⟩

set_option maxRecDepth 100000 in
set_option maxHeartbeats 800000 in
theorem number_any (x : Int) (w : World) : Calls Try.prog 33 #[.int .i64 x] w fun e w' => e = .returned (vl 1 x emp) ∧ Below w.heap.size w w' := by
  go_enter Try.func33, Try.ntmps33
  go_wp2
  go_returns
  exact ⟨rfl, below1 w _⟩

set_option maxRecDepth 100000 in
set_option maxHeartbeats 800000 in
theorem text_any (s : ByteArray) (w : World) : Calls Try.prog 34 #[.string s] w fun e w' => e = .returned (vl 2 0 s) ∧ Below w.heap.size w w' := by
  go_enter Try.func34, Try.ntmps34
  go_wp2
  go_returns
  exact ⟨rfl, below1 w _⟩

/-- Is a text a key? -/
def isKeyB (s : ByteArray) : Bool := decide (0 < s.size ∧ s.size ≤ 64)

set_option maxRecDepth 100000 in
set_option maxHeartbeats 800000 in
theorem isKey_any (s : ByteArray) (w : World) : Calls Try.prog 16 #[.string s] w fun e w' => e = .returned (.bool (isKeyB s)) ∧ w' = w := by
  obtain ⟨b, hb⟩ : ∃ b, b = isKeyB s := ⟨_, rfl⟩
  rw [← hb]
  have HB := hid hb
  clear hb
  by_cases h0 : (0 : Int) < s.size
  · by_cases h1 : (s.size : Int) ≤ 64
    · go_enter Try.func16, Try.ntmps16
      go_wp2
      go_ret
      exact ⟨by rw [HB.out, show isKeyB s = true by unfold isKeyB; simp; omega]; rfl, rfl⟩
    · go_enter Try.func16, Try.ntmps16
      go_wp2
      go_ret
      exact ⟨by rw [HB.out, show isKeyB s = false by unfold isKeyB; simp; omega]; rfl, rfl⟩
  · go_enter Try.func16, Try.ntmps16
    go_wp2
    go_ret
    exact ⟨by rw [HB.out, show isKeyB s = false by unfold isKeyB; simp; omega]; rfl, rfl⟩

end Go.Proofs.Ytiammlngbejhkaa

namespace Go.Proofs.Ytiammlngbejhkaa
open Go.RowKit

/-- Is a number within 64 binary digits? -/
def inR (z : Int) : Bool := decide (-9223372036854775808 ≤ z ∧ z ≤ 9223372036854775807)

/-- What a way to reckon answers of x and y: v, if that is within 64 digits. -/
def Reck (F : Nat) (x y v : Int) : Prop := ∀ w : World, Calls Try.prog F #[.int .i64 x, .int .i64 y] w fun e w' => (∃ z, e = .returned (.tuple #[.int .i64 z, .bool (inR v)]) ∧ (inR v = true → z = v)) ∧ w' = w

theorem sum_reck (x y : Int) (hx : inR x = true) (hy : inR y = true) : Reck 42 x y (x + y) := by
  intro w
  refine (sum_any x y w).mono ?_
  rintro e w' ⟨rfl, rfl⟩
  unfold inR at *
  simp at hx hy
  refine ⟨⟨wrap64 (x + y), ?_, ?_⟩, rfl⟩
  · have e : (decide (x < wrap64 (x + y)) == decide (0 < y)) = decide (-9223372036854775808 ≤ x + y ∧ x + y ≤ 9223372036854775807) := by
      rw [Bool.eq_iff_iff]
      simp [wrap64]
      omega
    rw [e]
  · intro h
    simp at h
    simp [wrap64]
    omega

theorem diff_reck (x y : Int) (hx : inR x = true) (hy : inR y = true) : Reck 45 x y (x - y) := by
  intro w
  refine (diff_any x y w).mono ?_
  rintro e w' ⟨rfl, rfl⟩
  unfold inR at *
  simp at hx hy
  refine ⟨⟨wrap64 (x - y), ?_, ?_⟩, rfl⟩
  · have e : (decide (wrap64 (x - y) < x) == decide (0 < y)) = decide (-9223372036854775808 ≤ x - y ∧ x - y ≤ 9223372036854775807) := by
      rw [Bool.eq_iff_iff]
      simp [wrap64]
      omega
    rw [e]
  · intro h
    simp at h
    simp [wrap64]
    omega

theorem mul_abs (x y : Int) : ((x.natAbs * y.natAbs : Nat) : Int) = if (x < 0) = (y < 0) then x * y else -(x * y) := by
  rcases Int.lt_or_le x 0 with hx | hx <;> rcases Int.lt_or_le y 0 with hy | hy
  · rw [if_pos (by simp [hx, hy])]
    rw [Int.natCast_mul, show (x.natAbs : Int) = -x by omega, show (y.natAbs : Int) = -y by omega, Int.neg_mul_neg]
  · rw [if_neg (by simp [hx]; omega)]
    rw [Int.natCast_mul, show (x.natAbs : Int) = -x by omega, show (y.natAbs : Int) = y by omega, Int.neg_mul]
  · rw [if_neg (by simp [hy]; omega)]
    rw [Int.natCast_mul, show (x.natAbs : Int) = x by omega, show (y.natAbs : Int) = -y by omega, Int.mul_neg]
  · rw [if_pos (by simp; omega)]
    rw [Int.natCast_mul, show (x.natAbs : Int) = x by omega, show (y.natAbs : Int) = y by omega]

set_option maxRecDepth 100000 in
set_option maxHeartbeats 800000 in
theorem prod_walk (x y : Int) (hx1 : -9223372036854775808 ≤ x) (hx2 : x ≤ 9223372036854775807) (hy1 : -9223372036854775808 ≤ y) (hy2 : y ≤ 9223372036854775807) (w : World) (hi lo : Nat)
    (hm : hi = x.natAbs * y.natAbs / 18446744073709551616) (hn : lo = x.natAbs * y.natAbs % 18446744073709551616) (z : Int) (b : Bool)
    (hc : (decide (x < 0) == decide (y < 0)) = true ∧ z = wrap64 (lo : Int) ∧ b = (decide (hi = 0) && decide (lo ≤ 9223372036854775807)) ∨
      (decide (x < 0) == decide (y < 0)) = false ∧ z = wrap64 (-(wrap64 (lo : Int))) ∧ b = (decide (hi = 0) && decide (lo ≤ 9223372036854775808))) :
    Calls Try.prog 46 #[.int .i64 x, .int .i64 y] w fun e w' => e = .returned (.tuple #[.int .i64 z, .bool b]) ∧ w' = w := by
  have hmu := hid (mul64_any x.natAbs y.natAbs (by omega) (by omega))
  rw [← hm, ← hn] at hmu
  clear hm hn
  rcases hc with ⟨hsg, hz, hb⟩ | ⟨hsg, hz, hb⟩
  all_goals
    have HB := hid hb
    have HZ := hid hz
    clear hb hz
    by_cases h0 : (hi : Int) = 0
    · have h0' : hi = 0 := by omega
      subst h0'
      go_enter Try.func46, Try.ntmps46
      go_wp2_with (first
        | (go_at_call 79
           refine (size_any _ _ (by omega) (by omega)).mono ?_
           rintro e w1 ⟨rfl, e1⟩
           rw [e1]
           clear e1 w1)
        | (go_at_call 78
           refine (hmu.out _).mono ?_
           rintro e w1 ⟨rfl, e1⟩
           rw [e1]
           clear e1 w1))
      go_ret2
      refine ⟨?_, rfl⟩
      first
        | (have e2 : b = decide ((lo : Int) ≤ 9223372036854775807) := by (rw [HB.out, Bool.eq_iff_iff]; simp; omega)
           rw [HZ.out, e2]
           rfl)
        | (have e2 : b = decide ((lo : Int) ≤ 9223372036854775808) := by (rw [HB.out, Bool.eq_iff_iff]; simp; omega)
           rw [HZ.out, e2]
           rfl)
    · have h0' : ((hi : Int) == 0) = false := by simpa using h0
      go_enter Try.func46, Try.ntmps46
      go_wp2_with (first
        | (go_at_call 79
           refine (size_any _ _ (by omega) (by omega)).mono ?_
           rintro e w1 ⟨rfl, e1⟩
           rw [e1]
           clear e1 w1)
        | (go_at_call 78
           refine (hmu.out _).mono ?_
           rintro e w1 ⟨rfl, e1⟩
           rw [e1]
           clear e1 w1))
      go_ret2
      refine ⟨?_, rfl⟩
      have e2 : b = false := by
        rw [HB.out]
        have : ¬ hi = 0 := by omega
        simp [this]
      rw [HZ.out, e2]
      rfl

theorem prod_reck (x y : Int) (hx : inR x = true) (hy : inR y = true) : Reck 46 x y (x * y) := by
  intro w
  have hx2 : -9223372036854775808 ≤ x ∧ x ≤ 9223372036854775807 := by unfold inR at hx; simpa using hx
  have hy2 : -9223372036854775808 ≤ y ∧ y ≤ 9223372036854775807 := by unfold inR at hy; simpa using hy
  have ha := mul_abs x y
  obtain ⟨m, hm⟩ : ∃ m, m = x.natAbs * y.natAbs := ⟨_, rfl⟩
  obtain ⟨v, hv⟩ : ∃ v, v = x * y := ⟨_, rfl⟩
  rw [← hm, ← hv] at ha
  by_cases hs : (x < 0) = (y < 0)
  · rw [if_pos hs] at ha
    refine (prod_walk x y hx2.1 hx2.2 hy2.1 hy2.2 w (m / 18446744073709551616) (m % 18446744073709551616) (by rw [hm]) (by rw [hm]) _ _ (.inl ⟨by simp [hs], rfl, rfl⟩)).mono ?_
    rintro e w' ⟨rfl, rfl⟩
    refine ⟨⟨wrap64 ((m % 18446744073709551616 : Nat) : Int), ?_, ?_⟩, rfl⟩
    · have e : (decide (m / 18446744073709551616 = 0) && decide (m % 18446744073709551616 ≤ 9223372036854775807)) = inR (x * y) := by
        rw [Bool.eq_iff_iff, ← hv]
        unfold inR
        simp
        omega
      rw [e]
    · rw [← hv]
      unfold inR
      intro h
      simp at h
      simp [wrap64]
      omega
  · rw [if_neg hs] at ha
    refine (prod_walk x y hx2.1 hx2.2 hy2.1 hy2.2 w (m / 18446744073709551616) (m % 18446744073709551616) (by rw [hm]) (by rw [hm]) _ _ (.inr ⟨?_, rfl, rfl⟩)).mono ?_
    · rcases Int.lt_or_le x 0 with h1 | h1 <;> rcases Int.lt_or_le y 0 with h2 | h2
      · exact absurd (by simp [h1, h2]) hs
      · simp [h1]; omega
      · simp [h2]; omega
      · exact absurd (by simp; omega) hs
    rintro e w' ⟨rfl, rfl⟩
    refine ⟨⟨wrap64 (-(wrap64 ((m % 18446744073709551616 : Nat) : Int))), ?_, ?_⟩, rfl⟩
    · have e : (decide (m / 18446744073709551616 = 0) && decide (m % 18446744073709551616 ≤ 9223372036854775808)) = inR (x * y) := by
        rw [Bool.eq_iff_iff, ← hv]
        unfold inR
        simp
        omega
      rw [e]
    · rw [← hv]
      unfold inR
      intro h
      simp at h
      simp [wrap64]
      omega

end Go.Proofs.Ytiammlngbejhkaa

namespace Go.Proofs.Ytiammlngbejhkaa
open Go.RowKit

/-- What comes of two integers. -/
def rckV (v : Int) : Value := if inR v = true then .tuple #[vl 1 v emp, .int .i64 0] else .tuple #[vl 0 0 emp, .int .i64 15]

/-- Is a value an integer? -/
def isI (k : Int) (s : ByteArray) : Bool := decide (k = 1 ∧ s = emp)

theorem ta_chd (k i : Int) (s : ByteArray) : ∃ x, (isI k s = true → x = i) ∧ ∀ w : World, (Instr.typeAssert (chd k i s) 58 60 true).run Try.prog w = .ok (.tuple #[.int .i64 x, .bool (isI k s)]) w := by
  rcases chd_cases k i s with ⟨rfl, rfl, h⟩ | ⟨rfl, rfl, h2, h⟩ | ⟨h, h1, h2⟩
  · refine ⟨i, fun _ => rfl, fun w => ?_⟩
    rw [h, ta60, show isI 1 emp = true by simp [isI]]
  · refine ⟨0, fun h => by simp [isI] at h, fun w => ?_⟩
    rw [h, ta6260, show isI 2 s = false by simp [isI]]
  · have e : isI k s = false := by simpa [isI] using h1
    refine ⟨0, fun h => (by rw [e] at h; cases h), fun w => ?_⟩
    rw [h, tan60, e]

/-- What a reckoning answers. -/
def rckT (a b : Bool) (v : Int) : Value := if (a && b) = true then rckV v else .tuple #[vl 0 0 emp, .int .i64 14]

set_option maxRecDepth 100000 in
set_option maxHeartbeats 1600000 in
theorem reckon_any (F : Nat) (k i : Int) (s : ByteArray) (l j : Int) (t : ByteArray) (v : Int) (hF : isI k s = true → isI l t = true → Reck F i j v) (hE : ∀ args w, (callFunc F args).run Try.prog w = .ok (.enter F args) w) (w : World) :
    Calls Try.prog 41 #[.func (.func F) #[] #[], vl k i s, vl l j t] w fun e w' => e = .returned (rckT (isI k s) (isI l t) v) ∧ Below w.heap.size w w' := by
  obtain ⟨hA, hB, hC, h0⟩ := three w (vo k i s) (vo l j t) (vo 0 0 emp)
  have HB := hid hB
  have HC := hid hC
  have H0 := hid h0
  clear hA hB hC h0
  obtain ⟨x, hx, qx⟩ := ta_chd k i s
  obtain ⟨y, hy, qy⟩ := ta_chd l j t
  have ha := checked_any k i s
  have hb := checked_any l j t
  obtain ⟨ca, hca⟩ : ∃ ca, ca = chd k i s := ⟨_, rfl⟩
  obtain ⟨cb, hcb⟩ : ∃ cb, cb = chd l j t := ⟨_, rfl⟩
  obtain ⟨ba, hba⟩ : ∃ ba, ba = isI k s := ⟨_, rfl⟩
  obtain ⟨bb, hbb⟩ : ∃ bb, bb = isI l t := ⟨_, rfl⟩
  rw [← hca] at ha qx
  rw [← hcb] at hb qy
  rw [← hba] at qx hx hF ⊢
  rw [← hbb] at qy hy hF ⊢
  have PA := hid ha
  have PB := hid hb
  clear ha hb hca hcb hba hbb
  have armA : ∀ w1 : World, Below (((w.alloc (vo k i s)).alloc (vo l j t)).alloc (vo 0 0 emp)).heap.size (((w.alloc (vo k i s)).alloc (vo l j t)).alloc (vo 0 0 emp)) w1 → w1.heap[w.heap.size + 1]? = some (vo l j t) ∧ w1.heap[w.heap.size + 1 + 1]? = some (vo 0 0 emp) ∧ Below w.heap.size w w1 := by
    intro w1 h
    exact ⟨blk_of h HB.out (by simp), blk_of h HC.out (by simp), below_on H0.out h⟩
  have HArm := hid armA
  clear armA HB HC H0
  by_cases hab : (ba && bb) = true
  · have e1 : ba = true := by revert hab; cases ba <;> simp
    have e2 : bb = true := by revert hab; cases bb <;> simp
    subst e1
    subst e2
    have ex : i = x := (hx rfl).symm
    have ey : j = y := (hy rfl).symm
    subst ex
    subst ey
    have HF := hid (hF rfl rfl)
    clear hx hy hF hab
    obtain ⟨r, hr⟩ : ∃ r, r = inR v := ⟨_, rfl⟩
    have HR := hid hr
    clear hr
    cases r
    · go_enter Try.func41, Try.ntmps41
      go_wp2_with (first
        | (go_at_call 47
           (with_reducible show Calls _ _ #[vl k i s] _ _)
           refine (PA.out _).mono ?_
           rintro e w1 ⟨rfl, hb1⟩
           obtain ⟨g1, g2, g3⟩ := HArm.out w1 hb1
           obtain ⟨d0, d1, d2, -⟩ := vfacts g1
           have H1 := hid (And.intro g2 g3)
           clear hb1 g1 g2 g3 HArm)
        | (go_at_call 47
           refine (PB.out _).mono ?_
           rintro e w2 ⟨rfl, hb2⟩
           have g2 := blk_of hb2 H1.out.1 (lt_of H1.out.1)
           obtain ⟨c0, c1, c2, ff⟩ := vfacts g2
           have H2 := hid (And.intro g2 (below_on H1.out.2 hb2))
           clear hb2 g2)
        | (go_at_fn F
           refine (HF.out _).mono ?_
           rintro e w3 ⟨⟨z, rfl, -⟩, e3⟩
           rw [e3]
           rw [← HR.out]
           clear e3 w3))
      refine bodyPost_ret (ret_agg2 Try.results41 rfl (set3 H2.out.1 _ _ _)) rfl ?_
      exact ⟨by simp [rckT, rckV, ← HR.out], Below.set3 H2.out.2 (by omega) _ _ _⟩
    · go_enter Try.func41, Try.ntmps41
      go_wp2_with (first
        | (go_at_call 47
           (with_reducible show Calls _ _ #[vl k i s] _ _)
           refine (PA.out _).mono ?_
           rintro e w1 ⟨rfl, hb1⟩
           obtain ⟨g1, g2, g3⟩ := HArm.out w1 hb1
           obtain ⟨d0, d1, d2, -⟩ := vfacts g1
           have H1 := hid (And.intro g2 g3)
           clear hb1 g1 g2 g3 HArm)
        | (go_at_call 47
           refine (PB.out _).mono ?_
           rintro e w2 ⟨rfl, hb2⟩
           have g2 := blk_of hb2 H1.out.1 (lt_of H1.out.1)
           obtain ⟨c0, c1, c2, ff⟩ := vfacts g2
           have H2 := hid (And.intro g2 (below_on H1.out.2 hb2))
           clear hb2 g2)
        | (go_at_fn F
           refine (HF.out _).mono ?_
           rintro e w3 ⟨⟨z, rfl, hz⟩, e3⟩
           have hz2 := hz HR.out.symm
           rw [e3, hz2]
           rw [← HR.out]
           clear e3 w3 hz hz2)
        | (go_at_call 77
           refine (ivalue_any _ _).mono ?_
           rintro e w4 ⟨rfl, hb4⟩
           have g4 := blk_of hb4 H2.out.1 (lt_of H2.out.1)
           obtain ⟨c0, c1, c2, ff⟩ := vfacts g4
           have H4 := hid (And.intro g4 (below_on H2.out.2 hb4))
           clear hb4 g4))
      refine bodyPost_ret (ret_agg2 Try.results41 rfl (set3 H4.out.1 _ _ _)) rfl ?_
      exact ⟨by simp [rckT, rckV, ← HR.out], Below.set3 H4.out.2 (by omega) _ _ _⟩
  · have e3 : rckT ba bb v = .tuple #[vl 0 0 emp, .int .i64 14] := by unfold rckT; rw [if_neg hab]
    rw [e3]
    clear e3 hx hy hF
    revert hab
    cases ba <;> cases bb <;> intro hab
    case true.true => exact absurd rfl hab
    all_goals
      clear hab
      go_enter Try.func41, Try.ntmps41
      go_wp2_with (first
        | (go_at_call 47
           (with_reducible show Calls _ _ #[vl k i s] _ _)
           refine (PA.out _).mono ?_
           rintro e w1 ⟨rfl, hb1⟩
           obtain ⟨g1, g2, g3⟩ := HArm.out w1 hb1
           obtain ⟨d0, d1, d2, -⟩ := vfacts g1
           have H1 := hid (And.intro g2 g3)
           clear hb1 g1 g2 g3 HArm)
        | (go_at_call 47
           refine (PB.out _).mono ?_
           rintro e w2 ⟨rfl, hb2⟩
           have g2 := blk_of hb2 H1.out.1 (lt_of H1.out.1)
           obtain ⟨c0, c1, c2, ff⟩ := vfacts g2
           have H2 := hid (And.intro g2 (below_on H1.out.2 hb2))
           clear hb2 g2))
      refine bodyPost_ret (ret_agg2 Try.results41 rfl (set3 H2.out.1 _ _ _)) rfl ?_
      exact ⟨rfl, Below.set3 H2.out.2 (by omega) _ _ _⟩

end Go.Proofs.Ytiammlngbejhkaa

namespace Go.Proofs.Ytiammlngbejhkaa
open Go

theorem and127_u64 (u : Int) (h0 : 0 ≤ u) (h1 : u < 18446744073709551616) : bits .and .u64 u 127 = u % 128 := by
  rw [u64_and u 127 h0 h1 (by omega) (by omega)]
  rw [show ((127 : Int).toNat) = 127 from rfl, nat_mask7]
  omega

theorem and1_u64 (u : Int) (h0 : 0 ≤ u) (h1 : u < 18446744073709551616) : bits .and .u64 u 1 = u % 2 := by
  rw [u64_and u 1 h0 h1 (by omega) (by omega)]
  rw [show ((1 : Int).toNat) = 1 from rfl, nat_mask1]
  omega

theorem and127_u8 (u : Int) (h0 : 0 ≤ u) (h1 : u < 256) : bits .and .u8 u 127 = u % 128 := by
  rw [u8_and u 127 h0 h1 (by omega) (by omega)]
  rw [show ((127 : Int).toNat) = 127 from rfl, nat_mask7]
  omega

theorem and128_u8 (u : Int) (h0 : 0 ≤ u) (h1 : u < 256) : bits .and .u8 u 128 = u / 128 * 128 := by
  rw [u8_and u 128 h0 h1 (by omega) (by omega)]
  rw [show ((128 : Int).toNat) = 2 ^ 7 from rfl, nat_bit]
  omega

theorem or128_u8 (u : Int) (h0 : 0 ≤ u) (h1 : u < 128) : bits .or .u8 u 128 = u + 128 := by
  rw [u8_or u 128 h0 (by omega) (by omega) (by omega)]
  rw [show ((128 : Int).toNat) = 128 from rfl, Nat.or_comm, nat_join 7 128 u.toNat (by decide) (by omega)]
  omega

theorem xorMax_u64 (x : Int) (h0 : 0 ≤ x) (h1 : x < 18446744073709551616) : bits .xor .u64 IntKind.u64.max x = 18446744073709551615 - x := by
  have e : IntKind.u64.max = 18446744073709551615 := by decide
  rw [e, u64_xor _ x (by omega) (by omega) h0 h1]
  obtain ⟨n, rfl⟩ := Int.eq_ofNat_of_zero_le h0
  have hn : n < 2 ^ 64 := by omega
  have hx : (18446744073709551615 : Nat) ^^^ n = 18446744073709551615 - n := by
    have h := BitVec.toNat_not (x := BitVec.ofNat 64 n)
    rw [← BitVec.allOnes_xor] at h
    rw [BitVec.toNat_xor] at h
    simp only [BitVec.toNat_allOnes, BitVec.toNat_ofNat] at h
    rw [Nat.mod_eq_of_lt hn] at h
    omega
  rw [show ((18446744073709551615 : Int).toNat) = 18446744073709551615 from rfl, Int.toNat_natCast, hx]
  omega

/-- ^v of an int64. -/
theorem xorMax_i64 (x : Int) (h0 : -9223372036854775808 ≤ x) (h1 : x < 9223372036854775808) : bits .xor .i64 (-1) x = -1 - x := by
  have key : ∀ b : BitVec 64, (BitVec.allOnes 64 ^^^ b) = ~~~b := fun b => BitVec.allOnes_xor
  have e1 : BitVec.ofInt 64 (-1) = BitVec.allOnes 64 := by decide
  have hb : (bits .xor .i64 (-1) x) = IntKind.i64.wrap ((BitVec.ofInt 64 (-1) ^^^ BitVec.ofInt 64 x).toNat : Int) := rfl
  rw [hb, e1, key, BitVec.toNat_not, BitVec.toNat_ofInt, IntKind.wrap_i64]
  have hm : (2 ^ 64 : Int) = 18446744073709551616 := by decide
  omega

theorem or_u64 (x y : Int) (i : Nat) (hx0 : 0 ≤ x) (hx1 : x < 2 ^ i) (hy0 : 0 ≤ y) (hy : y % 2 ^ i = 0) (hx2 : x < 18446744073709551616) (hy1 : y < 18446744073709551616) : bits .or .u64 x y = x + y := by
  rw [u64_or x y hx0 hx2 hy0 hy1]
  obtain ⟨a, rfl⟩ := Int.eq_ofNat_of_zero_le hx0
  obtain ⟨b, rfl⟩ := Int.eq_ofNat_of_zero_le hy0
  rw [Int.toNat_natCast, Int.toNat_natCast, Nat.or_comm, nat_join i b a (by exact_mod_cast hy) (by exact_mod_cast hx1)]
  omega

end Go.Proofs.Ytiammlngbejhkaa
