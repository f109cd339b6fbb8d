import Derived.Test.YtdnlfacfleemeaaRows
import Derived.WalkKit
import Derived.WalkSpells
import Derived.WalkLawsBesides
import Derived.Deep.RegionHeld3
import Derived.Deep.AppendLies
import Derived.Deep.DrawnRows
import Derived.Deep.QuietTactic
import Derived.BigQuiet
import Derived.Laws.CopyOwn
import Derived.Laws.StructEq
import Derived.Handy
import Derived.Laws.ResultCell
import Derived.Lib.Bytealg
namespace Go.Proofs.Ytdnlfacfleemeaa
open Go.RowKit

theorem hid {p : Prop} (h : p) : Hid p := h

/-- All blocks outside S are as they were. -/
structure Kept (S : Nat → Prop) (w w' : World) : Prop where
  os : w'.os = w.os
  tape : w'.tape = w.tape
  output : w'.output = w.output
  size : w.heap.size ≤ w'.heap.size
  block : ∀ k, k < w.heap.size → ¬ S k → w'.heap[k]? = w.heap[k]?

theorem Kept.refl (S : Nat → Prop) (w : World) : Kept S w w := ⟨rfl, rfl, rfl, Nat.le_refl _, fun _ _ _ => rfl⟩

theorem Kept.trans {S S' : Nat → Prop} {a b c : World} (h : Kept S a b) (k : Kept S' b c) (hs : ∀ i, i < a.heap.size → S' i → S i) : Kept S a c :=
  ⟨k.os.trans h.os, k.tape.trans h.tape, k.output.trans h.output, Nat.le_trans h.size k.size,
   fun i hi hn => (k.block i (Nat.lt_of_lt_of_le hi h.size) (fun hx => hn (hs i hi hx))).trans (h.block i hi hn)⟩

theorem Kept.mono {S S' : Nat → Prop} {a b : World} (h : Kept S a b) (hs : ∀ i, i < a.heap.size → S i → S' i) : Kept S' a b :=
  ⟨h.os, h.tape, h.output, h.size, fun i hi hn => h.block i hi (fun hx => hn (hs i hi hx))⟩

theorem Kept.drew {S : Nat → Prop} {a w : World} (h : Kept S a w) : Kept S a w.drew := ⟨h.os, h.tape, h.output, h.size, h.block⟩

theorem Kept.alloc {S : Nat → Prop} {a w : World} (h : Kept S a w) (o : Obj) : Kept S a (w.alloc o) :=
  h.trans (S' := fun _ => False) ⟨rfl, rfl, rfl, by simp, fun k hk _ => Below.heap_alloc _ _ _ hk⟩ (fun _ _ h => h.elim)

theorem Kept.setCell {S : Nat → Prop} {a w : World} (h : Kept S a w) {p : Addr} (hp : p.block < a.heap.size → S p.block) (u : Value) : Kept S a (w.setCell p u) :=
  h.trans (S' := fun k => k = p.block) ⟨rfl, rfl, rfl, by simp [World.setCell], fun k _ hn => Below.heap_setCell _ _ _ _ hn⟩ (fun i hi e => by subst e; exact hp hi)

theorem Kept.grown {S : Nat → Prop} {a w w' : World} {row : Option Nat} (h : Kept S a w) (hg : w.grownBy w' row) (hr : ∀ k, k < a.heap.size → row = some k → S k) : Kept S a w' :=
  h.trans (S' := fun k => row = some k) ⟨hg.os, hg.tape, hg.output, hg.size, fun k hk hn => hg.block k hk (fun e => hn e.symm)⟩ hr

theorem Kept.below {S : Nat → Prop} {a w : World} {B : Nat} (h : Kept S a w) (hB : B ≤ a.heap.size) (hs : ∀ k, k < B → ¬ S k) : Below B a w :=
  ⟨h.os, h.tape, h.output, h.size, fun k hk => h.block k (Nat.lt_of_lt_of_le hk hB) (hs k hk)⟩

theorem Kept.ofBelow {a w : World} (h : Below a.heap.size a w) : Kept (fun _ => False) a w :=
  ⟨h.os, h.tape, h.output, h.size, fun k hk _ => h.block k hk⟩

theorem Kept.cell {S : Nat → Prop} {a w : World} (h : Kept S a w) {p : Addr} {v : Value} (hc : a.cell? p = some v) (hn : ¬ S p.block) : w.cell? p = some v :=
  (World.cell?_of_block (h.block p.block (World.block_lt_of_cell? a p hc) hn)).trans hc

/-- The cells of bytes. -/
abbrev B8 (l : List Int) : List Value := l.map (Value.int .u8)

theorem Try.info5 : (Try.prog.info? 5).map (fun i => (i.zero, i.size, i.bytes)) = some (some (.int .u8 0), 1, 1) := by kernel_rfl

/-- A Writer at block p: its data in block g. -/
def Wr (B : Nat) (w : World) (p : Nat) (g : Option Nat) (bs : List Int) (e : Int) : Prop :=
  ∃ v, w.heap[p]? = some (.cells #[v, .int .i64 e] 57 (0, 0)) ∧ v.ownBlock = g ∧ w.ownsRow B 5 1 v bs.length (B8 bs)

theorem Wr.lt {B : Nat} {w : World} {p : Nat} {g : Option Nat} {bs : List Int} {e : Int} (h : Wr B w p g bs e) : p < w.heap.size := by
  obtain ⟨v, h1, _⟩ := h
  exact (Array.getElem?_eq_some_iff.1 h1).1

theorem Wr.glt {B : Nat} {w : World} {p : Nat} {g : Option Nat} {bs : List Int} {e : Int} (h : Wr B w p g bs e) : ∀ k, g = some k → B ≤ k ∧ k < w.heap.size := by
  obtain ⟨v, _, rfl, h3⟩ := h
  exact h3.lt

theorem Wr.ne {B : Nat} {w : World} {p : Nat} {g : Option Nat} {bs : List Int} {e : Int} (h : Wr B w p g bs e) : g ≠ some p := by
  obtain ⟨v, h1, rfl, h3⟩ := h
  intro hg
  rcases h3.2 with ⟨rfl, _⟩ | ⟨g, cap, cur, rfl, hb, hgg, _⟩
  · simp [Value.ownBlock] at hg
  · simp [Value.ownBlock] at hg
    subst hg
    rw [h1] at hgg
    simp at hgg

theorem ownsRow_kept {w w' : World} {B : Nat} {e : TypeId} {size : Nat} {v : Value} {n : Nat} {xs : List Value} {S : Nat → Prop} (h : w.ownsRow B e size v n xs) (hk : Kept S w w')
    (hn : ∀ k, v.ownBlock = some k → ¬ S k) : w'.ownsRow B e size v n xs := by
  refine ⟨h.1, ?_⟩
  rcases h.2 with hn' | ⟨g, cap, cur, rfl, hb, hgg, rest⟩
  · exact .inl hn'
  · refine .inr ⟨g, cap, cur, rfl, hb, ?_, rest⟩
    rw [hk.block g (Array.getElem?_eq_some_iff.1 hgg).1 (hn g rfl)]
    exact hgg

theorem Wr.kept {B : Nat} {w w' : World} {p : Nat} {g : Option Nat} {bs : List Int} {e : Int} {S : Nat → Prop} (h : Wr B w p g bs e) (hk : Kept S w w') (hp : ¬ S p) (hg : ∀ k, g = some k → ¬ S k) : Wr B w' p g bs e := by
  obtain ⟨v, h1, rfl, h3⟩ := h
  refine ⟨v, ?_, rfl, ownsRow_kept h3 hk hg⟩
  rw [hk.block p (Array.getElem?_eq_some_iff.1 h1).1 hp]
  exact h1

theorem cell_of_pair {w : World} {p : Nat} {a b : Value} {t : TypeId} (h : w.heap[p]? = some (.cells #[a, b] t (0, 0))) : w.cell? ⟨p, 0, none⟩ = some a ∧ w.cell? ⟨p, 1, none⟩ = some b := by
  constructor
  · rw [cell_of_row w p 0 _ t (0, 0) h]; rfl
  · rw [cell_of_row w p 1 _ t (0, 0) h]; rfl

theorem free_of_block {w : World} {p o : Nat} {cs : Array Value} {t : TypeId} (h : w.heap[p]? = some (.cells cs t (0, 0))) : w.frozen? ⟨p, o, none⟩ = false := by
  simp [World.frozen?, h]

theorem heap_setCell_same {w : World} {p : Nat} {a b x : Value} {t : TypeId} (h : w.heap[p]? = some (.cells #[a, b] t (0, 0))) : (w.setCell ⟨p, 0, none⟩ x).heap[p]? = some (.cells #[x, b] t (0, 0)) := by
  simp [World.setCell, Array.getElem?_modify, h]

theorem heap_setCell_same1 {w : World} {p : Nat} {a b x : Value} {t : TypeId} (h : w.heap[p]? = some (.cells #[a, b] t (0, 0))) : (w.setCell ⟨p, 1, none⟩ x).heap[p]? = some (.cells #[a, x] t (0, 0)) := by
  simp [World.setCell, Array.getElem?_modify, h]

/-- The Writer's block behind an append of its data. -/
theorem push_block {B : Nat} {w w1 : World} {p : Nat} {v : Value} {e : Int} {bs : List Int} (h1 : w.heap[p]? = some (.cells #[v, .int .i64 e] 57 (0, 0))) (hw : Wr B w p v.ownBlock bs e)
    (o : Obj) (hgrow : (w.alloc o).grownBy w1 v.ownBlock) : w1.heap[p]? = some (.cells #[v, .int .i64 e] 57 (0, 0)) := by
  have hp := (Array.getElem?_eq_some_iff.1 h1).1
  rw [hgrow.block p (by simp; omega) (fun h => hw.ne h.symm), Below.heap_alloc _ _ _ hp]
  exact h1

theorem push_step {B : Nat} {w w1 : World} {p : Nat} {v : Value} {e : Int} {bs ns : List Int} (h1 : w.heap[p]? = some (.cells #[v, .int .i64 e] 57 (0, 0))) (hw : Wr B w p v.ownBlock bs e)
    (o : Obj) (hgrow : (w.alloc o).grownBy w1 v.ownBlock) {g n cap : Nat} (hown : w1.ownsRow B 5 1 (.slice (some ⟨g, 0, none⟩) n cap) n (B8 bs ++ B8 ns)) (hat : v.ownBlock = some g ∨ g = w.heap.size + 1) :
    Wr B (w1.setCell ⟨p, 0, none⟩ (.slice (some ⟨g, 0, none⟩) n cap)) p (some g) (bs ++ ns) e ∧ (some g = v.ownBlock ∨ ∃ k, w.heap.size ≤ k ∧ some g = some k) ∧
    Kept (fun k => k = p ∨ v.ownBlock = some k) w (w1.setCell ⟨p, 0, none⟩ (.slice (some ⟨g, 0, none⟩) n cap)) := by
  have hp := (Array.getElem?_eq_some_iff.1 h1).1
  have hb := push_block h1 hw o hgrow
  have hne : g ≠ p := by
    rcases hat with h | h
    · intro e; subst e; exact hw.ne h
    · omega
  have hn : n = (bs ++ ns).length := by
    have := hown.1
    simp at this
    simp
    omega
  refine ⟨⟨_, heap_setCell_same hb, rfl, ?_⟩, ?_, ?_⟩
  · rw [← hn]
    have h2 : (w1.setCell ⟨p, 0, none⟩ (.slice (some ⟨g, 0, none⟩) n cap)).ownsRow B 5 1 (.slice (some ⟨g, 0, none⟩) n cap) n (B8 bs ++ B8 ns) :=
      ownsRow_kept hown (S := fun k => k = p) ⟨rfl, rfl, rfl, by simp [World.setCell], fun k _ hn => Below.heap_setCell _ _ _ _ hn⟩ (by intro k hk; simp [Value.ownBlock] at hk; omega)
    simpa using h2
  · rcases hat with h | h
    · exact .inl h.symm
    · exact .inr ⟨g, by omega, rfl⟩
  · refine Kept.setCell (Kept.grown ((Kept.refl _ w).alloc o) hgrow ?_) ?_ _
    · intro k _ hk; exact .inr hk
    · intro _; exact .inl rfl

end Go.Proofs.Ytdnlfacfleemeaa

namespace Go.Proofs.Ytdnlfacfleemeaa
open Go.RowKit

/-- A value of the program. -/
abbrev vl (k i : Int) (s : ByteArray) : Value := .agg #[.int .i64 k, .int .i64 i, .string s]

/-- What it says by its kind alone. -/
def thing (k i : Int) (s : ByteArray) : Value := if k = 1 then .iface 105 (.int .i64 i) else if k = 2 then .iface 107 (.string s) else .nilIface

theorem thing1 (i : Int) (s : ByteArray) : thing 1 i s = .iface 105 (.int .i64 i) := rfl
theorem thing2 (i : Int) (s : ByteArray) : thing 2 i s = .iface 107 (.string s) := rfl
theorem thing0 {k : Int} (i : Int) (s : ByteArray) (h1 : k ≠ 1) (h2 : k ≠ 2) : thing k i s = .nilIface := by simp [thing, h1, h2]

/-- The cells of a value in its block behind a call. -/
theorem vcells {w w1 : World} {a b c : Value} {B : Nat} (h : Below B (w.alloc (.cells #[a, b, c] 50)) w1) (hB : w.heap.size < B) :
    w1.cell? ⟨w.heap.size, 0, none⟩ = some a ∧ w1.cell? ⟨w.heap.size, 1, none⟩ = some b ∧ w1.cell? ⟨w.heap.size, 2, none⟩ = some c := by
  have hb : w1.heap[w.heap.size]? = some (.cells #[a, b, c] 50 (0, 0)) := by
    rw [h.block _ hB]; exact heap_alloc_new w _
  refine ⟨?_, ?_, ?_⟩ <;> (rw [cell_of_row w1 _ _ _ _ _ hb]; rfl)

theorem below1 (w : World) (o : Obj) : Below w.heap.size w (w.alloc o) := (Below.refl _ w).alloc (Nat.le_refl _) o

theorem vfacts {w : World} {r : Nat} {a b c : Value} {t : TypeId} (h : w.heap[r]? = some (.cells #[a, b, c] t (0, 0))) :
    w.cell? ⟨r, 0, none⟩ = some a ∧ w.cell? ⟨r, 1, none⟩ = some b ∧ w.cell? ⟨r, 2, none⟩ = some c ∧ ∀ o, w.frozen? ⟨r, o, none⟩ = false := by
  refine ⟨?_, ?_, ?_, fun o => by simp [World.frozen?, h]⟩ <;> (rw [cell_of_row w _ _ _ _ _ h]; rfl)

theorem blk_of {B : Nat} {w w1 : World} {r : Nat} {o : Obj} (h : Below B w w1) (hr : w.heap[r]? = some o) (hB : r < B) : w1.heap[r]? = some o := (h.block r hB).trans hr

theorem lt_of {w : World} {r : Nat} {o : Obj} (h : w.heap[r]? = some o) : r < w.heap.size := (Array.getElem?_eq_some_iff.1 h).1

theorem two1 (w : World) (o p : Obj) : ((w.alloc o).alloc p).heap[w.heap.size]? = some o := by
  rw [Below.heap_alloc _ _ _ (by simp)]; exact heap_alloc_new w o

theorem two2 (w : World) (o p : Obj) : ((w.alloc o).alloc p).heap[w.heap.size + 1]? = some p := by
  have := heap_alloc_new (w.alloc o) p
  simpa using this

theorem below2 (w : World) (o p : Obj) : Below w.heap.size w ((w.alloc o).alloc p) := (below1 w o).alloc (by simp) p

theorem set3 {w : World} {r : Nat} {a b c : Value} {t : TypeId} (h : w.heap[r]? = some (.cells #[a, b, c] t (0, 0))) (x y z : Value) :
    (((w.setCell ⟨r, 0, none⟩ x).setCell ⟨r, 1, none⟩ y).setCell ⟨r, 2, none⟩ z).heap[r]? = some (.cells #[x, y, z] t (0, 0)) := by
  simp [World.setCell, Array.getElem?_modify, h]

theorem Below.set3 {B : Nat} {w w1 : World} {r : Nat} (h : Below B w w1) (hr : B ≤ r) (x y z : Value) : Below B w (((w1.setCell ⟨r, 0, none⟩ x).setCell ⟨r, 1, none⟩ y).setCell ⟨r, 2, none⟩ z) :=
  ((h.setCell (p := ⟨r, 0, none⟩) hr x).setCell (p := ⟨r, 1, none⟩) hr y).setCell (p := ⟨r, 2, none⟩) hr z

set_option maxRecDepth 100000 in
theorem load_agg {w : World} {r : Nat} {a b c : Value} (hb : w.heap[r]? = some (.cells #[a, b, c] 50 (0, 0))) : (loadVar 50 ⟨r, 0, none⟩).run Try.prog w = .ok (.agg #[a, b, c]) w := by
  obtain ⟨c0, c1, c2, _⟩ := vfacts hb
  simp [go_sem, c0, c1, c2]

theorem ret_agg {fn : Func} {p : Tmp} (h : fn.results = #[.cell p 50]) {tmps : Array Value} {r : Nat} {w : World} {a b c : Value} (ht : tmps.getD p undef = .pointer (some ⟨r, 0, none⟩)) (hb : w.heap[r]? = some (.cells #[a, b, c] 50 (0, 0))) :
    (results fn tmps).run Try.prog w = .ok (.agg #[a, b, c]) w := by
  have ht2 := ht
  simp only [Array.getD_eq_getD_getElem?] at ht2
  simp only [results, h]
  simp [ht2, load_agg hb, asAddr]

theorem ret_agg2 {fn : Func} {p u : Tmp} (h : fn.results = #[.cell p 50, .tmp u]) {tmps : Array Value} {r : Nat} {w : World} {a b c : Value} (ht : tmps.getD p undef = .pointer (some ⟨r, 0, none⟩)) (hb : w.heap[r]? = some (.cells #[a, b, c] 50 (0, 0))) :
    (results fn tmps).run Try.prog w = .ok (.tuple #[.agg #[a, b, c], tmps.getD u undef]) w := by
  rw [results_cell_tmp h, ht]
  simp [Result.andThen, load_agg hb, asAddr]

set_option maxRecDepth 100000 in
set_option maxHeartbeats 800000 in
theorem thingOf_any (k i : Int) (s : ByteArray) (w : World) : Calls Try.prog 44 #[vl k i s] w fun x w' => x = .returned (thing k i s) ∧ Below w.heap.size w w' := by
  have hb := hid (below1 w (Obj.cells #[Value.int IntKind.i64 k, Value.int IntKind.i64 i, Value.string s] 50))
  by_cases h1 : k = 1
  · subst h1
    go_enter Try.func44, Try.ntmps44
    go_wp2
    go_ret
    exact ⟨rfl, hb.out⟩
  · by_cases h2 : k = 2
    · subst h2
      go_enter Try.func44, Try.ntmps44
      go_wp2
      go_ret
      exact ⟨rfl, hb.out⟩
    · go_enter Try.func44, Try.ntmps44
      have e1 : (k == 1) = false := by simpa using h1
      have e2 : (k == 2) = false := by simpa using h2
      go_wp2
      go_ret
      exact ⟨by rw [thing0 i s h1 h2]; rfl, hb.out⟩

set_option maxRecDepth 100000 in
set_option maxHeartbeats 800000 in
theorem ivalue_any (i : Int) (w : World) : Calls Try.prog 109 #[.int .i64 i] w fun x w' => x = .returned (vl 1 i ⟨#[]⟩) ∧ Below w.heap.size w w' := by
  go_enter Try.func109, Try.ntmps109
  go_wp2
  go_returns
  exact ⟨rfl, below1 w _⟩

set_option maxRecDepth 100000 in
set_option maxHeartbeats 800000 in
theorem tvalue_any (s : ByteArray) (w : World) : Calls Try.prog 111 #[.string s] w fun x w' => x = .returned (vl 2 0 s) ∧ Below w.heap.size w w' := by
  go_enter Try.func111, Try.ntmps111
  go_wp2
  go_returns
  exact ⟨rfl, below1 w _⟩

end Go.Proofs.Ytdnlfacfleemeaa

namespace Go.Proofs.Ytdnlfacfleemeaa
open Go.RowKit

/-- A value without what its kind does not have. -/
def plainV (k i : Int) (s : ByteArray) : Value := if k = 1 then vl 1 i ⟨#[]⟩ else if k = 2 then vl 2 0 s else vl 0 0 ⟨#[]⟩

set_option maxRecDepth 100000 in
set_option maxHeartbeats 800000 in
theorem plain_any (k i : Int) (s : ByteArray) (w : World) : Calls Try.prog 38 #[vl k i s] w fun x w' => x = .returned (plainV k i s) ∧ Below w.heap.size w w' := by
  have hB0 := hid (below2 w (Obj.cells #[Value.int IntKind.i64 k, Value.int IntKind.i64 i, Value.string s] 50) (Obj.cells #[Value.int IntKind.i64 0, Value.int IntKind.i64 0, Value.string { data := #[] }] 50))
  have hR0 := hid (two2 w (Obj.cells #[Value.int IntKind.i64 k, Value.int IntKind.i64 i, Value.string s] 50) (Obj.cells #[Value.int IntKind.i64 0, Value.int IntKind.i64 0, Value.string { data := #[] }] 50))
  by_cases h1 : k = 1
  · subst h1
    go_enter Try.func38, Try.ntmps38
    go_wp2_with (first
      | (go_at_call 44
         refine (thingOf_any 1 i s _).mono ?_
         rintro e w1 ⟨rfl, hb1⟩
         rw [thing1]
         have H1 := hid (And.intro (blk_of hb1 hR0.out (by simp)) (hB0.out.trans (hb1.mono hB0.out.size)))
         clear hb1)
      | (go_at_call 109
         refine (ivalue_any i _).mono ?_
         rintro e w2 ⟨rfl, hb2⟩
         have hr2 := blk_of hb2 H1.out.1 (lt_of H1.out.1)
         obtain ⟨c0, c1, c2, ff⟩ := vfacts hr2
         have H2 := hid (And.intro hr2 (H1.out.2.trans (hb2.mono H1.out.2.size)))
         clear hb2 hr2))
    refine bodyPost_ret (ret_agg Try.results38 rfl (set3 H2.out.1 _ _ _)) rfl ?_
    exact ⟨rfl, Below.set3 H2.out.2 (by simp) _ _ _⟩
  · by_cases h2 : k = 2
    · subst h2
      go_enter Try.func38, Try.ntmps38
      go_wp2_with (first
        | (go_at_call 44
           refine (thingOf_any 2 i s _).mono ?_
           rintro e w1 ⟨rfl, hb1⟩
           rw [thing2]
           have H1 := hid (And.intro (blk_of hb1 hR0.out (by simp)) (hB0.out.trans (hb1.mono hB0.out.size)))
           clear hb1)
        | (go_at_call 111
           refine (tvalue_any s _).mono ?_
           rintro e w2 ⟨rfl, hb2⟩
           have hr2 := blk_of hb2 H1.out.1 (lt_of H1.out.1)
           obtain ⟨c0, c1, c2, ff⟩ := vfacts hr2
           have H2 := hid (And.intro hr2 (H1.out.2.trans (hb2.mono H1.out.2.size)))
           clear hb2 hr2))
      refine bodyPost_ret (ret_agg Try.results38 rfl (set3 H2.out.1 _ _ _)) rfl ?_
      exact ⟨rfl, Below.set3 H2.out.2 (by simp) _ _ _⟩
    · go_enter Try.func38, Try.ntmps38
      go_wp2_with (go_at_call 44
                   refine (thingOf_any k i s _).mono ?_
                   rintro e w1 ⟨rfl, hb1⟩
                   rw [thing0 i s h1 h2]
                   have hr1 := blk_of hb1 hR0.out (by simp)
                   obtain ⟨c0, c1, c2, ff⟩ := vfacts hr1
                   have H1 := hid (And.intro hr1 (hB0.out.trans (hb1.mono hB0.out.size)))
                   clear hb1 hr1)
      refine bodyPost_ret (ret_agg Try.results38 rfl (set3 H1.out.1 _ _ _)) rfl ?_
      exact ⟨by simp [plainV, h1, h2], Below.set3 H1.out.2 (by simp) _ _ _⟩

/-- Why a value is none. -/
def chk (k i : Int) (s : ByteArray) : Int :=
  if k = 1 then (if s = ⟨#[]⟩ then 0 else 14) else if k = 2 then (if i = 0 then (if 256 < s.size then 4 else 0) else 14) else if k = 0 ∧ i = 0 ∧ s = ⟨#[]⟩ then 0 else 14

end Go.Proofs.Ytdnlfacfleemeaa

namespace Go.Proofs.Ytdnlfacfleemeaa
open Go.RowKit

theorem str_ne {s : ByteArray} (h : s ≠ ⟨#[]⟩) : s.toList ≠ [] := by
  intro e
  apply h
  rw [ByteArray.toList_eq] at e
  obtain ⟨⟨x⟩⟩ := s
  simp at e
  simp [e]

theorem str_ne2 {s : ByteArray} (h : s ≠ ⟨#[]⟩) : (s == (⟨#[]⟩ : ByteArray)) = false ∧ s.toList ≠ [] ∧ s.toList.isEmpty = false ∧ (s.toList == []) = false := by
  have h2 := str_ne h
  refine ⟨?_, h2, ?_, ?_⟩
  · rw [beq_toListBytes]
    rw [show (⟨#[]⟩ : ByteArray).toList = [] by rw [ByteArray.toList_eq]]
    cases hx : s.toList <;> simp_all
  · cases hx : s.toList <;> simp_all
  · cases hx : s.toList <;> simp_all

theorem emp_toList : (⟨#[]⟩ : ByteArray).toList = [] := by rw [ByteArray.toList_eq]

set_option maxRecDepth 100000 in
set_option maxHeartbeats 800000 in
theorem check_core (k i : Int) (s : ByteArray) (w : World) (a b : Int) (c : ByteArray) (hp : plainV k i s = vl a b c) (r : Int)
    (hc : (k == a) = false ∧ r = 14 ∨ (k == a) = true ∧ (i == b) = false ∧ r = 14 ∨ (k == a) = true ∧ (i == b) = true ∧ (s.toList == c.toList) = false ∧ r = 14 ∨
      (k == a) = true ∧ (i == b) = true ∧ (s.toList == c.toList) = true ∧ ((s.size : Int) ≤ 256 ∧ r = 0 ∨ (256 : Int) < s.size ∧ r = 4)) :
    Calls Try.prog 25 #[vl k i s] w fun x w' => x = .returned (.int .i64 r) ∧ Below w.heap.size w w' := by
  have hB0 := hid (below1 w (Obj.cells #[Value.int IntKind.i64 k, Value.int IntKind.i64 i, Value.string s] 50))
  have hR0 := hid (heap_alloc_new w (Obj.cells #[Value.int IntKind.i64 k, Value.int IntKind.i64 i, Value.string s] 50))
  have HP := hid hp
  clear hp
  rcases hc with ⟨h1, rfl⟩ | ⟨h1, h2, rfl⟩ | ⟨h1, h2, h3, rfl⟩ | ⟨h1, h2, h3, ⟨hg, rfl⟩ | ⟨hg, rfl⟩⟩
  all_goals
      go_enter Try.func25, Try.ntmps25
      go_wp2
      go_region_held (fun w' => w'.cell? ⟨w.heap.size, 0, none⟩ = some (.int .i64 k) ∧ w'.cell? ⟨w.heap.size, 1, none⟩ = some (.int .i64 i) ∧ w'.cell? ⟨w.heap.size, 2, none⟩ = some (.string s)) (go_keep) (first
              | (go_at_call 38
                 refine (plain_any k i s _).mono ?_
                 rintro e w1 ⟨rfl, hb1⟩
                 rw [HP.out]
                 have hb1' : Below (w.alloc (Obj.cells #[Value.int IntKind.i64 k, Value.int IntKind.i64 i, Value.string s] 50)).heap.size (w.alloc (Obj.cells #[Value.int IntKind.i64 k, Value.int IntKind.i64 i, Value.string s] 50)) w1 := ⟨hb1.os, hb1.tape, hb1.output, hb1.size, hb1.block⟩
                 have hr1 := blk_of hb1' hR0.out (by simp)
                 obtain ⟨c0, c1, c2, ff⟩ := vfacts hr1
                 have H1 := hid (And.intro hr1 (hB0.out.trans (hb1'.mono hB0.out.size)))
                 clear hb1 hb1' hr1))
      go_wp2
      go_ret
      exact ⟨rfl, H1.out.2⟩

theorem toList_inj {a b : ByteArray} (h : a.toList = b.toList) : a = b := by
  rw [ByteArray.toList_eq, ByteArray.toList_eq] at h
  obtain ⟨⟨x⟩⟩ := a
  obtain ⟨⟨y⟩⟩ := b
  simp at h
  simp [h]

theorem check_any (k i : Int) (s : ByteArray) (w : World) : Calls Try.prog 25 #[vl k i s] w fun x w' => x = .returned (.int .i64 (chk k i s)) ∧ Below w.heap.size w w' := by
  have hse : s ≠ ⟨#[]⟩ → (s.toList == (⟨#[]⟩ : ByteArray).toList) = false := by
    intro h
    rw [emp_toList]
    exact (str_ne2 h).2.2.2
  by_cases h1 : k = 1
  · subst h1
    refine check_core 1 i s w 1 i ⟨#[]⟩ rfl _ ?_
    by_cases hs : s = ⟨#[]⟩
    · subst hs
      exact .inr (.inr (.inr ⟨by simp, by simp, by simp, .inl ⟨by decide, by simp [chk]⟩⟩))
    · exact .inr (.inr (.inl ⟨by simp, by simp, hse hs, by simp [chk, hs]⟩))
  · by_cases h2 : k = 2
    · subst h2
      refine check_core 2 i s w 2 0 s rfl _ ?_
      by_cases hi : i = 0
      · subst hi
        by_cases hg : 256 < s.size
        · exact .inr (.inr (.inr ⟨by simp, by simp, by simp, .inr ⟨by omega, by simp [chk, hg]⟩⟩))
        · exact .inr (.inr (.inr ⟨by simp, by simp, by simp, .inl ⟨by omega, by simp [chk, hg]⟩⟩))
      · exact .inr (.inl ⟨by simp, by simpa using hi, by simp [chk, hi]⟩)
    · refine check_core k i s w 0 0 ⟨#[]⟩ (by simp [plainV, h1, h2]) _ ?_
      by_cases hk : k = 0
      · subst hk
        by_cases hi : i = 0
        · subst hi
          by_cases hs : s = ⟨#[]⟩
          · subst hs
            exact .inr (.inr (.inr ⟨by simp, by simp, by simp, .inl ⟨by decide, by simp [chk]⟩⟩))
          · exact .inr (.inr (.inl ⟨by simp, by simp, hse hs, by simp [chk, hs]⟩))
        · exact .inr (.inl ⟨by simp, by simpa using hi, by simp [chk, hi]⟩)
      · exact .inl ⟨by simpa using hk, by simp [chk, h1, h2, hk]⟩

/-- What a value says; nothing, if it is none. -/
def chd (k i : Int) (s : ByteArray) : Value := if chk k i s = 0 then thing k i s else .nilIface

end Go.Proofs.Ytdnlfacfleemeaa

namespace Go.Proofs.Ytdnlfacfleemeaa
open Go.RowKit

/-- Two integers, held against each other. -/
def cmpI (a b : Int) : Int := if a < b then -1 else if b < a then 1 else 0

/-- Two texts. -/
abbrev cmpS (a b : ByteArray) : Int := Lib.compareBytes a.data.toList b.data.toList

/-- Two values, held against each other. -/
def cmpV (k i : Int) (s : ByteArray) (l j : Int) (t : ByteArray) : Int :=
  if cmpI k l ≠ 0 then cmpI k l else if k = 1 then cmpI i j else if k = 2 then cmpS s t else 0

end Go.Proofs.Ytdnlfacfleemeaa

namespace Go.Proofs.Ytdnlfacfleemeaa
open Go.RowKit

abbrev vo (k i : Int) (s : ByteArray) : Obj := .cells #[.int .i64 k, .int .i64 i, .string s] 50

theorem ta60 (v : Value) (w : World) : (Instr.typeAssert (.iface 105 v) 103 105 true).run Try.prog w = .ok (.tuple #[v, .bool true]) w := by kernel_rfl
theorem ta6260 (v : Value) (w : World) : (Instr.typeAssert (.iface 107 v) 103 105 true).run Try.prog w = .ok (.tuple #[.int .i64 0, .bool false]) w := by kernel_rfl
theorem ta62 (v : Value) (w : World) : (Instr.typeAssert (.iface 107 v) 103 107 true).run Try.prog w = .ok (.tuple #[v, .bool true]) w := by kernel_rfl
theorem ta6062 (v : Value) (w : World) : (Instr.typeAssert (.iface 105 v) 103 107 true).run Try.prog w = .ok (.tuple #[.string ⟨#[]⟩, .bool false]) w := by kernel_rfl
theorem tan60 (w : World) : (Instr.typeAssert .nilIface 103 105 true).run Try.prog w = .ok (.tuple #[.int .i64 0, .bool false]) w := by kernel_rfl
theorem tan62 (w : World) : (Instr.typeAssert .nilIface 103 107 true).run Try.prog w = .ok (.tuple #[.string ⟨#[]⟩, .bool false]) w := by kernel_rfl

end Go.Proofs.Ytdnlfacfleemeaa

namespace Go.Proofs.Ytdnlfacfleemeaa
open Go.RowKit

abbrev emp : ByteArray := ⟨#[]⟩

theorem chd_cases (k i : Int) (s : ByteArray) : (k = 1 ∧ s = emp ∧ chd k i s = .iface 105 (.int .i64 i)) ∨ (k = 2 ∧ i = 0 ∧ s.size ≤ 256 ∧ chd k i s = .iface 107 (.string s)) ∨
    (chd k i s = .nilIface ∧ ¬ (k = 1 ∧ s = emp) ∧ ¬ (k = 2 ∧ i = 0 ∧ s.size ≤ 256)) := by
  unfold chd
  by_cases h1 : k = 1
  · subst h1
    by_cases hs : s = emp
    · subst hs
      exact .inl ⟨rfl, rfl, by simp [chk, thing]⟩
    · exact .inr (.inr ⟨by simp [chk, hs], by simp [hs], by simp⟩)
  · by_cases h2 : k = 2
    · subst h2
      by_cases hi : i = 0
      · subst hi
        by_cases hg : 256 < s.size
        · exact .inr (.inr ⟨by simp [chk, hg], by simp, by simp; omega⟩)
        · exact .inr (.inl ⟨rfl, rfl, by omega, by simp [chk, hg, thing]⟩)
      · exact .inr (.inr ⟨by simp [chk, hi], by simp, by simp [hi]⟩)
    · refine .inr (.inr ⟨?_, by simp [h1], by simp [h2]⟩)
      split
      · exact thing0 i s h1 h2
      · rfl

theorem three (w : World) (a b c : Obj) : (((w.alloc a).alloc b).alloc c).heap[w.heap.size]? = some a ∧ (((w.alloc a).alloc b).alloc c).heap[w.heap.size + 1]? = some b ∧
    (((w.alloc a).alloc b).alloc c).heap[w.heap.size + 1 + 1]? = some c ∧ Below w.heap.size w (((w.alloc a).alloc b).alloc c) := by
  refine ⟨?_, ?_, ?_, (below2 w a b).alloc (by simp; omega) c⟩
  · rw [Below.heap_alloc _ _ _ (by simp; omega)]; exact two1 w a b
  · rw [Below.heap_alloc _ _ _ (by simp)]; exact two2 w a b
  · have := heap_alloc_new ((w.alloc a).alloc b) c
    simpa using this

theorem blk_drewN {B : Nat} {w w1 : World} {r m : Nat} {o : Obj} (h : Below B (w.drewN m) w1) (hr : w.heap[r]? = some o) (hB : r < B) : w1.heap[r]? = some o := (h.block r hB).trans hr

theorem below_on {w0 w w1 : World} (h0 : Below w0.heap.size w0 w) (h : Below w.heap.size w w1) : Below w0.heap.size w0 w1 := h0.trans (h.mono h0.size)

theorem below_drewN {w0 w w1 : World} {m : Nat} (h0 : Below w0.heap.size w0 w) (h : Below w.heap.size (w.drewN m) w1) : Below w0.heap.size w0 w1 := by
  have h' : Below w.heap.size w w1 := ⟨h.os, h.tape, h.output, h.size, h.block⟩
  exact below_on h0 h'

/-- Is a text a key? -/
def isKeyB (s : ByteArray) : Bool := decide (0 < s.size ∧ s.size ≤ 64)

end Go.Proofs.Ytdnlfacfleemeaa

namespace Go.Proofs.Ytdnlfacfleemeaa
open Go

theorem and127_u64 (u : Int) (h0 : 0 ≤ u) (h1 : u < 18446744073709551616) : bits .and .u64 u 127 = u % 128 := by
  rw [u64_and u 127 h0 h1 (by omega) (by omega)]
  rw [show ((127 : Int).toNat) = 127 from rfl, nat_mask7]
  omega

theorem and1_u64 (u : Int) (h0 : 0 ≤ u) (h1 : u < 18446744073709551616) : bits .and .u64 u 1 = u % 2 := by
  rw [u64_and u 1 h0 h1 (by omega) (by omega)]
  rw [show ((1 : Int).toNat) = 1 from rfl, nat_mask1]
  omega

theorem and127_u8 (u : Int) (h0 : 0 ≤ u) (h1 : u < 256) : bits .and .u8 u 127 = u % 128 := by
  rw [u8_and u 127 h0 h1 (by omega) (by omega)]
  rw [show ((127 : Int).toNat) = 127 from rfl, nat_mask7]
  omega

theorem and128_u8 (u : Int) (h0 : 0 ≤ u) (h1 : u < 256) : bits .and .u8 u 128 = u / 128 * 128 := by
  rw [u8_and u 128 h0 h1 (by omega) (by omega)]
  rw [show ((128 : Int).toNat) = 2 ^ 7 from rfl, nat_bit]
  omega

theorem or128_u8 (u : Int) (h0 : 0 ≤ u) (h1 : u < 128) : bits .or .u8 u 128 = u + 128 := by
  rw [u8_or u 128 h0 (by omega) (by omega) (by omega)]
  rw [show ((128 : Int).toNat) = 128 from rfl, Nat.or_comm, nat_join 7 128 u.toNat (by decide) (by omega)]
  omega

theorem xorMax_u64 (x : Int) (h0 : 0 ≤ x) (h1 : x < 18446744073709551616) : bits .xor .u64 IntKind.u64.max x = 18446744073709551615 - x := by
  have e : IntKind.u64.max = 18446744073709551615 := by decide
  rw [e, u64_xor _ x (by omega) (by omega) h0 h1]
  obtain ⟨n, rfl⟩ := Int.eq_ofNat_of_zero_le h0
  have hn : n < 2 ^ 64 := by omega
  have hx : (18446744073709551615 : Nat) ^^^ n = 18446744073709551615 - n := by
    have h := BitVec.toNat_not (x := BitVec.ofNat 64 n)
    rw [← BitVec.allOnes_xor] at h
    rw [BitVec.toNat_xor] at h
    simp only [BitVec.toNat_allOnes, BitVec.toNat_ofNat] at h
    rw [Nat.mod_eq_of_lt hn] at h
    omega
  rw [show ((18446744073709551615 : Int).toNat) = 18446744073709551615 from rfl, Int.toNat_natCast, hx]
  omega

/-- ^v of an int64. -/
theorem xorMax_i64 (x : Int) (h0 : -9223372036854775808 ≤ x) (h1 : x < 9223372036854775808) : bits .xor .i64 (-1) x = -1 - x := by
  have key : ∀ b : BitVec 64, (BitVec.allOnes 64 ^^^ b) = ~~~b := fun b => BitVec.allOnes_xor
  have e1 : BitVec.ofInt 64 (-1) = BitVec.allOnes 64 := by decide
  have hb : (bits .xor .i64 (-1) x) = IntKind.i64.wrap ((BitVec.ofInt 64 (-1) ^^^ BitVec.ofInt 64 x).toNat : Int) := rfl
  rw [hb, e1, key, BitVec.toNat_not, BitVec.toNat_ofInt, IntKind.wrap_i64]
  have hm : (2 ^ 64 : Int) = 18446744073709551616 := by decide
  omega

theorem or_u64 (x y : Int) (i : Nat) (hx0 : 0 ≤ x) (hx1 : x < 2 ^ i) (hy0 : 0 ≤ y) (hy : y % 2 ^ i = 0) (hx2 : x < 18446744073709551616) (hy1 : y < 18446744073709551616) : bits .or .u64 x y = x + y := by
  rw [u64_or x y hx0 hx2 hy0 hy1]
  obtain ⟨a, rfl⟩ := Int.eq_ofNat_of_zero_le hx0
  obtain ⟨b, rfl⟩ := Int.eq_ofNat_of_zero_le hy0
  rw [Int.toNat_natCast, Int.toNat_natCast, Nat.or_comm, nat_join i b a (by exact_mod_cast hy) (by exact_mod_cast hx1)]
  omega

end Go.Proofs.Ytdnlfacfleemeaa

namespace Go.Proofs.Ytdnlfacfleemeaa
open Go.RowKit

/-- The row of sevens of u, in at most f + 1 bytes. -/
def rowF : Nat → Int → List Int
  | 0, u => [u]
  | f + 1, u => if 127 < u then (u % 128 + 128) :: rowF f (u / 128) else [u]

theorem rowF_more (f : Nat) (u : Int) (h : 127 < u) : rowF (f + 1) u = [u % 128 + 128] ++ rowF f (u / 128) := by
  rw [rowF, if_pos h]; rfl
theorem rowF_last (f : Nat) (u : Int) (h : ¬ 127 < u) : rowF f u = [u] := by
  cases f with
  | zero => rfl
  | succ f => rw [rowF, if_neg h]

theorem pow_step (f : Nat) (u : Int) (h : u < 128 ^ (f + 1 + 1)) : u / 128 < 128 ^ (f + 1) := by
  apply Int.ediv_lt_of_lt_mul (by omega)
  rw [Int.pow_succ] at h
  exact h
theorem pow_zero_no (u : Int) (h : u < 128 ^ (0 + 1)) : ¬ 127 < u := by
  have : (128 : Int) ^ (0 + 1) = 128 := by decide
  omega

/-- What a call on a Writer leaves: the bytes bs, the error e; its block p and its data's block g alone may have turned. -/
def WrStep (B : Nat) (p : Nat) (g : Option Nat) (w w' : World) (bs : List Int) (e : Int) : Prop :=
  ∃ g', Wr B w' p g' bs e ∧ (g' = g ∨ ∃ k, w.heap.size ≤ k ∧ g' = some k) ∧ Kept (fun k => k = p ∨ g = some k) w w'

theorem WrStep.refl {B p : Nat} {g : Option Nat} {w : World} {bs : List Int} {e : Int} (h : Wr B w p g bs e) : WrStep B p g w w bs e := ⟨g, h, .inl rfl, Kept.refl _ _⟩

/-- One step behind another. -/
theorem wr_trans {B p : Nat} {g g' g2 : Option Nat} {w w' w2 : World} {bs : List Int} {e : Int}
    (hg : g' = g ∨ ∃ k, w.heap.size ≤ k ∧ g' = some k) (hk : Kept (fun k => k = p ∨ g = some k) w w')
    (hw : Wr B w2 p g2 bs e) (hg2 : g2 = g' ∨ ∃ k, w'.heap.size ≤ k ∧ g2 = some k) (hk2 : Kept (fun k => k = p ∨ g' = some k) w' w2) :
    WrStep B p g w w2 bs e := by
  refine ⟨g2, hw, ?_, ?_⟩
  · rcases hg2 with rfl | ⟨k, h1, h2⟩
    · exact hg
    · exact .inr ⟨k, by have := hk.size; omega, h2⟩
  · refine hk.trans hk2 ?_
    intro i hi hs
    rcases hs with h | h
    · exact .inl h
    · rcases hg with rfl | ⟨k, h1, h2⟩
      · exact .inr h
      · rw [h2] at h; simp at h; omega

theorem WrStep.trans {B p : Nat} {g : Option Nat} {w w' w2 : World} {bs bs2 : List Int} {e e2 : Int}
    (h : WrStep B p g w w' bs e) (h2 : ∀ g', Wr B w' p g' bs e → WrStep B p g' w' w2 bs2 e2) : WrStep B p g w w2 bs2 e2 := by
  obtain ⟨g', a, b, c⟩ := h
  obtain ⟨g2, a2, b2, c2⟩ := h2 g' a
  exact wr_trans b c a2 b2 c2

set_option maxRecDepth 100000 in
set_option maxHeartbeats 800000 in
theorem wrow_any (B p : Nat) (g : Option Nat) (bs : List Int) (e : Int) (w : World) (u : Int) (h : Wr B w p g bs e) (hB : B ≤ w.heap.size) (hu0 : 0 ≤ u) (hu1 : u < 18446744073709551616) (hl : bs.length ≤ 1000000000) :
    Calls Try.prog 27 #[.pointer (some ⟨p, 0, none⟩), .int .u64 u] w fun x w' => x = .returned (.tuple #[]) ∧ WrStep B p g w w' (bs ++ rowF 10 u) e := by
  obtain ⟨i0, hi, hz0, hz1, hz2⟩ := info_parts Try.info5
  go_enter Try.func27, Try.ntmps27
  go_wp2
  go_loopw [1] (fun t wr => ∃ (f : Nat) (u' : Int) (bs' : List Int) (g' : Option Nat), t = .int .u64 u' ∧ 0 ≤ u' ∧ u' < 18446744073709551616 ∧ Wr B wr p g' bs' e ∧ bs' ++ rowF f u' = bs ++ rowF 10 u ∧ f ≤ 10 ∧ bs'.length + f = bs.length + 10 ∧ Hid (u' < 128 ^ (f + 1)) ∧
      (g' = g ∨ ∃ k, w.heap.size ≤ k ∧ g' = some k) ∧ Kept (fun k => k = p ∨ g = some k) w wr)
    (fun t _ => (intOf t).toNat)
  case atStart => exact ⟨10, u, bs, g, rfl, hu0, hu1, h, rfl, Nat.le_refl _, rfl, (show u < 128 ^ (10 + 1) by omega), .inl rfl, Kept.refl _ _⟩
  case round =>
    obtain ⟨f, u', bs', g', rfl, h0, h1, hw, hb, hf, hlen, hpow, hg, hk⟩ := hrel
    have hwo := hw
    obtain ⟨v, hv1, hv2, hv3⟩ := hwo
    obtain ⟨c0, c1⟩ := cell_of_pair hv1
    have Hb : Hid (bs' ++ rowF f u' = bs ++ rowF 10 u) := hb
    clear hb h
    by_cases hc : 127 < u'
    · have a1 := and127_u64 u' h0 h1
      have a2 : IntKind.u8.wrap (u' % 128) = u' % 128 := by rw [IntKind.wrap_u8]; omega
      have a3 := or128_u8 (u' % 128) (by omega) (by omega)
      go_wp2_with (at_builtin; refine wpList_append_lies _ rfl _ _ _ rfl B 5 i0 (.int .u8 0) 1 1 Try.underlying34 hi hz0 hz1 hz2 rfl (by omega) v bs'.length (B8 bs') rfl (hv3.alloc _) ⟨wr.heap.size, 0, none⟩ 1 1 [.int .u8 (u' % 128 + 128)] rfl rfl (World.news_of_block (cs := #[.int .u8 (u' % 128 + 128)]) (t := 5) (fr := (0, 0)) (heap_alloc_new wr _)) (by simp [Value.oneCell']) (by omega) (by unfold maxLen; omega) (by omega) (by have := hk.size; simp; omega) (wr.heap.size + 1) (by simp) ?_)
      intro g2 cap w1 hown hgrow hat hlt
      subst hv2
      have hb1 := push_block hv1 hw _ hgrow
      have P := push_step (ns := [u' % 128 + 128]) hv1 hw _ hgrow hown hat
      obtain ⟨d0, d1⟩ := cell_of_pair hb1
      have d2 := free_of_block (o := 0) hb1
      clear hb1 hown hgrow hat c0 c1
      go_wp2
      go_roundw
      case rel =>
        cases f with
        | zero => exact absurd hc (pow_zero_no u' hpow)
        | succ f =>
          obtain ⟨gg, q1, q2, q3⟩ := wr_trans hg hk P.1 P.2.1 P.2.2
          refine ⟨f, u' / 128, bs' ++ [u' % 128 + 128], gg, by first | rfl | go_num, by omega, by omega, q1, ?_, by omega, by simp; omega, pow_step f u' hpow, q2, q3⟩
          rw [← Hb.out, rowF_more f u' hc, List.append_assoc]
      case measure => simp [intOf]; omega
    · have a2 : IntKind.u8.wrap u' = u' := by rw [IntKind.wrap_u8]; omega
      go_wp2_with (at_builtin; refine wpList_append_lies _ rfl _ _ _ rfl B 5 i0 (.int .u8 0) 1 1 Try.underlying34 hi hz0 hz1 hz2 rfl (by omega) v bs'.length (B8 bs') rfl (hv3.alloc _) ⟨wr.heap.size, 0, none⟩ 1 1 [.int .u8 u'] rfl rfl (World.news_of_block (cs := #[.int .u8 u']) (t := 5) (fr := (0, 0)) (heap_alloc_new wr _)) (by simp [Value.oneCell']) (by omega) (by unfold maxLen; omega) (by omega) (by have := hk.size; simp; omega) (wr.heap.size + 1) (by simp) ?_)
      intro g2 cap w1 hown hgrow hat hlt
      subst hv2
      have hb1 := push_block hv1 hw _ hgrow
      have P := push_step (ns := [u']) hv1 hw _ hgrow hown hat
      obtain ⟨d0, d1⟩ := cell_of_pair hb1
      have d2 := free_of_block (o := 0) hb1
      clear hb1 hown hgrow hat c0 c1
      go_wp2
      go_end0
      refine ⟨rfl, ?_⟩
      rw [← Hb.out, rowF_last f u' (by omega)]
      exact wr_trans hg hk P.1 P.2.1 P.2.2

end Go.Proofs.Ytdnlfacfleemeaa
