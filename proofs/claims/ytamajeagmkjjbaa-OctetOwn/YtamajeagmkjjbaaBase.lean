import Derived.Test.YtamajeagmkjjbaaRows
import Derived.WalkKit
import Derived.WalkSpells
import Derived.WalkLawsBesides
import Derived.Deep.RegionHeld3
import Derived.Deep.AppendLies
import Derived.Deep.DrawnRows
import Derived.Deep.QuietTactic
import Derived.BigQuiet
import Derived.Laws.CopyOwn
namespace Go.Proofs.Ytamajeagmkjjbaa
open Go.RowKit

theorem hid {p : Prop} (h : p) : Hid p := h

/-- All blocks outside S are as they were. -/
structure Kept (S : Nat → Prop) (w w' : World) : Prop where
  os : w'.os = w.os
  tape : w'.tape = w.tape
  output : w'.output = w.output
  size : w.heap.size ≤ w'.heap.size
  block : ∀ k, k < w.heap.size → ¬ S k → w'.heap[k]? = w.heap[k]?

theorem Kept.refl (S : Nat → Prop) (w : World) : Kept S w w := ⟨rfl, rfl, rfl, Nat.le_refl _, fun _ _ _ => rfl⟩

theorem Kept.trans {S S' : Nat → Prop} {a b c : World} (h : Kept S a b) (k : Kept S' b c) (hs : ∀ i, i < a.heap.size → S' i → S i) : Kept S a c :=
  ⟨k.os.trans h.os, k.tape.trans h.tape, k.output.trans h.output, Nat.le_trans h.size k.size,
   fun i hi hn => (k.block i (Nat.lt_of_lt_of_le hi h.size) (fun hx => hn (hs i hi hx))).trans (h.block i hi hn)⟩

theorem Kept.mono {S S' : Nat → Prop} {a b : World} (h : Kept S a b) (hs : ∀ i, i < a.heap.size → S i → S' i) : Kept S' a b :=
  ⟨h.os, h.tape, h.output, h.size, fun i hi hn => h.block i hi (fun hx => hn (hs i hi hx))⟩

theorem Kept.drew {S : Nat → Prop} {a w : World} (h : Kept S a w) : Kept S a w.drew := ⟨h.os, h.tape, h.output, h.size, h.block⟩

theorem Kept.alloc {S : Nat → Prop} {a w : World} (h : Kept S a w) (o : Obj) : Kept S a (w.alloc o) :=
  h.trans (S' := fun _ => False) ⟨rfl, rfl, rfl, by simp, fun k hk _ => Below.heap_alloc _ _ _ hk⟩ (fun _ _ h => h.elim)

theorem Kept.setCell {S : Nat → Prop} {a w : World} (h : Kept S a w) {p : Addr} (hp : p.block < a.heap.size → S p.block) (u : Value) : Kept S a (w.setCell p u) :=
  h.trans (S' := fun k => k = p.block) ⟨rfl, rfl, rfl, by simp [World.setCell], fun k _ hn => Below.heap_setCell _ _ _ _ hn⟩ (fun i hi e => by subst e; exact hp hi)

theorem Kept.grown {S : Nat → Prop} {a w w' : World} {row : Option Nat} (h : Kept S a w) (hg : w.grownBy w' row) (hr : ∀ k, k < a.heap.size → row = some k → S k) : Kept S a w' :=
  h.trans (S' := fun k => row = some k) ⟨hg.os, hg.tape, hg.output, hg.size, fun k hk hn => hg.block k hk (fun e => hn e.symm)⟩ hr

theorem Kept.below {S : Nat → Prop} {a w : World} {B : Nat} (h : Kept S a w) (hB : B ≤ a.heap.size) (hs : ∀ k, k < B → ¬ S k) : Below B a w :=
  ⟨h.os, h.tape, h.output, h.size, fun k hk => h.block k (Nat.lt_of_lt_of_le hk hB) (hs k hk)⟩

theorem Kept.ofBelow {a w : World} (h : Below a.heap.size a w) : Kept (fun _ => False) a w :=
  ⟨h.os, h.tape, h.output, h.size, fun k hk _ => h.block k hk⟩

theorem Kept.cell {S : Nat → Prop} {a w : World} (h : Kept S a w) {p : Addr} {v : Value} (hc : a.cell? p = some v) (hn : ¬ S p.block) : w.cell? p = some v :=
  (World.cell?_of_block (h.block p.block (World.block_lt_of_cell? a p hc) hn)).trans hc

/-- The cells of bytes. -/
abbrev B8 (l : List Int) : List Value := l.map (Value.int .u8)

theorem Try.info5 : (Try.prog.info? 5).map (fun i => (i.zero, i.size, i.bytes)) = some (some (.int .u8 0), 1, 1) := by kernel_rfl

/-- A Writer at block p: its data in block g. -/
def Wr (B : Nat) (w : World) (p : Nat) (g : Option Nat) (bs : List Int) (e : Int) : Prop :=
  ∃ v, w.heap[p]? = some (.cells #[v, .int .i64 e] 29 (0, 0)) ∧ v.ownBlock = g ∧ w.ownsRow B 5 1 v bs.length (B8 bs)

theorem Wr.lt {B : Nat} {w : World} {p : Nat} {g : Option Nat} {bs : List Int} {e : Int} (h : Wr B w p g bs e) : p < w.heap.size := by
  obtain ⟨v, h1, _⟩ := h
  exact (Array.getElem?_eq_some_iff.1 h1).1

theorem Wr.glt {B : Nat} {w : World} {p : Nat} {g : Option Nat} {bs : List Int} {e : Int} (h : Wr B w p g bs e) : ∀ k, g = some k → B ≤ k ∧ k < w.heap.size := by
  obtain ⟨v, _, rfl, h3⟩ := h
  exact h3.lt

theorem Wr.ne {B : Nat} {w : World} {p : Nat} {g : Option Nat} {bs : List Int} {e : Int} (h : Wr B w p g bs e) : g ≠ some p := by
  obtain ⟨v, h1, rfl, h3⟩ := h
  intro hg
  rcases h3.2 with ⟨rfl, _⟩ | ⟨g, cap, cur, rfl, hb, hgg, _⟩
  · simp [Value.ownBlock] at hg
  · simp [Value.ownBlock] at hg
    subst hg
    rw [h1] at hgg
    simp at hgg

theorem ownsRow_kept {w w' : World} {B : Nat} {e : TypeId} {size : Nat} {v : Value} {n : Nat} {xs : List Value} {S : Nat → Prop} (h : w.ownsRow B e size v n xs) (hk : Kept S w w')
    (hn : ∀ k, v.ownBlock = some k → ¬ S k) : w'.ownsRow B e size v n xs := by
  refine ⟨h.1, ?_⟩
  rcases h.2 with hn' | ⟨g, cap, cur, rfl, hb, hgg, rest⟩
  · exact .inl hn'
  · refine .inr ⟨g, cap, cur, rfl, hb, ?_, rest⟩
    rw [hk.block g (Array.getElem?_eq_some_iff.1 hgg).1 (hn g rfl)]
    exact hgg

theorem Wr.kept {B : Nat} {w w' : World} {p : Nat} {g : Option Nat} {bs : List Int} {e : Int} {S : Nat → Prop} (h : Wr B w p g bs e) (hk : Kept S w w') (hp : ¬ S p) (hg : ∀ k, g = some k → ¬ S k) : Wr B w' p g bs e := by
  obtain ⟨v, h1, rfl, h3⟩ := h
  refine ⟨v, ?_, rfl, ownsRow_kept h3 hk hg⟩
  rw [hk.block p (Array.getElem?_eq_some_iff.1 h1).1 hp]
  exact h1

theorem cell_of_pair {w : World} {p : Nat} {a b : Value} {t : TypeId} (h : w.heap[p]? = some (.cells #[a, b] t (0, 0))) : w.cell? ⟨p, 0, none⟩ = some a ∧ w.cell? ⟨p, 1, none⟩ = some b := by
  constructor
  · rw [cell_of_row w p 0 _ t (0, 0) h]; rfl
  · rw [cell_of_row w p 1 _ t (0, 0) h]; rfl

theorem free_of_block {w : World} {p o : Nat} {cs : Array Value} {t : TypeId} (h : w.heap[p]? = some (.cells cs t (0, 0))) : w.frozen? ⟨p, o, none⟩ = false := by
  simp [World.frozen?, h]

theorem heap_setCell_same {w : World} {p : Nat} {a b x : Value} {t : TypeId} (h : w.heap[p]? = some (.cells #[a, b] t (0, 0))) : (w.setCell ⟨p, 0, none⟩ x).heap[p]? = some (.cells #[x, b] t (0, 0)) := by
  simp [World.setCell, Array.getElem?_modify, h]

theorem heap_setCell_same1 {w : World} {p : Nat} {a b x : Value} {t : TypeId} (h : w.heap[p]? = some (.cells #[a, b] t (0, 0))) : (w.setCell ⟨p, 1, none⟩ x).heap[p]? = some (.cells #[a, x] t (0, 0)) := by
  simp [World.setCell, Array.getElem?_modify, h]

/-- The Writer's block behind an append of its data. -/
theorem push_block {B : Nat} {w w1 : World} {p : Nat} {v : Value} {e : Int} {bs : List Int} (h1 : w.heap[p]? = some (.cells #[v, .int .i64 e] 29 (0, 0))) (hw : Wr B w p v.ownBlock bs e)
    (o : Obj) (hgrow : (w.alloc o).grownBy w1 v.ownBlock) : w1.heap[p]? = some (.cells #[v, .int .i64 e] 29 (0, 0)) := by
  have hp := (Array.getElem?_eq_some_iff.1 h1).1
  rw [hgrow.block p (by simp; omega) (fun h => hw.ne h.symm), Below.heap_alloc _ _ _ hp]
  exact h1

theorem push_step {B : Nat} {w w1 : World} {p : Nat} {v : Value} {e : Int} {bs ns : List Int} (h1 : w.heap[p]? = some (.cells #[v, .int .i64 e] 29 (0, 0))) (hw : Wr B w p v.ownBlock bs e)
    (o : Obj) (hgrow : (w.alloc o).grownBy w1 v.ownBlock) {g n cap : Nat} (hown : w1.ownsRow B 5 1 (.slice (some ⟨g, 0, none⟩) n cap) n (B8 bs ++ B8 ns)) (hat : v.ownBlock = some g ∨ g = w.heap.size + 1) :
    Wr B (w1.setCell ⟨p, 0, none⟩ (.slice (some ⟨g, 0, none⟩) n cap)) p (some g) (bs ++ ns) e ∧ (some g = v.ownBlock ∨ ∃ k, w.heap.size ≤ k ∧ some g = some k) ∧
    Kept (fun k => k = p ∨ v.ownBlock = some k) w (w1.setCell ⟨p, 0, none⟩ (.slice (some ⟨g, 0, none⟩) n cap)) := by
  have hp := (Array.getElem?_eq_some_iff.1 h1).1
  have hb := push_block h1 hw o hgrow
  have hne : g ≠ p := by
    rcases hat with h | h
    · intro e; subst e; exact hw.ne h
    · omega
  have hn : n = (bs ++ ns).length := by
    have := hown.1
    simp at this
    simp
    omega
  refine ⟨⟨_, heap_setCell_same hb, rfl, ?_⟩, ?_, ?_⟩
  · rw [← hn]
    have h2 : (w1.setCell ⟨p, 0, none⟩ (.slice (some ⟨g, 0, none⟩) n cap)).ownsRow B 5 1 (.slice (some ⟨g, 0, none⟩) n cap) n (B8 bs ++ B8 ns) :=
      ownsRow_kept hown (S := fun k => k = p) ⟨rfl, rfl, rfl, by simp [World.setCell], fun k _ hn => Below.heap_setCell _ _ _ _ hn⟩ (by intro k hk; simp [Value.ownBlock] at hk; omega)
    simpa using h2
  · rcases hat with h | h
    · exact .inl h.symm
    · exact .inr ⟨g, by omega, rfl⟩
  · refine Kept.setCell (Kept.grown ((Kept.refl _ w).alloc o) hgrow ?_) ?_ _
    · intro k _ hk; exact .inr hk
    · intro _; exact .inl rfl

end Go.Proofs.Ytamajeagmkjjbaa
