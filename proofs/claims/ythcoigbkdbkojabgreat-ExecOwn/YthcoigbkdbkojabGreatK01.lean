import Derived.Test.YthcoigbkdbkojabGreatProg
import Derived.WalkKit
import Derived.WalkSpells
import Derived.WalkLawsBesides
import Derived.Deep.RegionHeld3
import Derived.Deep.AppendLies
import Derived.Deep.DrawnRows
import Derived.Deep.QuietTactic
import Derived.BigQuiet
import Derived.Deep.Cut
import Derived.Handy
import Derived.Laws.CopyOwn
import Derived.Deep.AppendSrc
import Derived.Lib.Bytealg
set_option maxRecDepth 100000
namespace Go.Proofs.YthcoigbkdbkojabGreat.V
open Go.RowKit
theorem hid {p : Prop} (h : p) : Hid p := h
structure Kept (S : Nat → Prop) (w w' : World) : Prop where
  os : w'.os = w.os
  tape : w'.tape = w.tape
  output : w'.output = w.output
  size : w.heap.size ≤ w'.heap.size
  block : ∀ k, k < w.heap.size → ¬ S k → w'.heap[k]? = w.heap[k]?
theorem Kept.refl (S : Nat → Prop) (w : World) : Kept S w w := ⟨rfl, rfl, rfl, Nat.le_refl _, fun _ _ _ => rfl⟩
theorem Kept.trans {S S' : Nat → Prop} {a b c : World} (h : Kept S a b) (k : Kept S' b c) (hs : ∀ i, i < a.heap.size → S' i → S i) : Kept S a c :=
  ⟨k.os.trans h.os, k.tape.trans h.tape, k.output.trans h.output, Nat.le_trans h.size k.size,
   fun i hi hn => (k.block i (Nat.lt_of_lt_of_le hi h.size) (fun hx => hn (hs i hi hx))).trans (h.block i hi hn)⟩
theorem Kept.mono {S S' : Nat → Prop} {a b : World} (h : Kept S a b) (hs : ∀ i, i < a.heap.size → S i → S' i) : Kept S' a b :=
  ⟨h.os, h.tape, h.output, h.size, fun i hi hn => h.block i hi (fun hx => hn (hs i hi hx))⟩
theorem Kept.drew {S : Nat → Prop} {a w : World} (h : Kept S a w) : Kept S a w.drew := ⟨h.os, h.tape, h.output, h.size, h.block⟩
theorem Kept.alloc {S : Nat → Prop} {a w : World} (h : Kept S a w) (o : Obj) : Kept S a (w.alloc o) :=
  h.trans (S' := fun _ => False) ⟨rfl, rfl, rfl, by simp, fun k hk _ => Below.heap_alloc _ _ _ hk⟩ (fun _ _ h => h.elim)
theorem Kept.setCell {S : Nat → Prop} {a w : World} (h : Kept S a w) {p : Addr} (hp : p.block < a.heap.size → S p.block) (u : Value) : Kept S a (w.setCell p u) :=
  h.trans (S' := fun k => k = p.block) ⟨rfl, rfl, rfl, by simp [World.setCell], fun k _ hn => Below.heap_setCell _ _ _ _ hn⟩ (fun i hi e => by subst e; exact hp hi)
theorem Kept.grown {S : Nat → Prop} {a w w' : World} {row : Option Nat} (h : Kept S a w) (hg : w.grownBy w' row) (hr : ∀ k, k < a.heap.size → row = some k → S k) : Kept S a w' :=
  h.trans (S' := fun k => row = some k) ⟨hg.os, hg.tape, hg.output, hg.size, fun k hk hn => hg.block k hk (fun e => hn e.symm)⟩ hr
theorem Kept.below {S : Nat → Prop} {a w : World} {B : Nat} (h : Kept S a w) (hB : B ≤ a.heap.size) (hs : ∀ k, k < B → ¬ S k) : Below B a w :=
  ⟨h.os, h.tape, h.output, h.size, fun k hk => h.block k (Nat.lt_of_lt_of_le hk hB) (hs k hk)⟩
theorem Kept.ofBelow {a w : World} (h : Below a.heap.size a w) : Kept (fun _ => False) a w :=
  ⟨h.os, h.tape, h.output, h.size, fun k hk _ => h.block k hk⟩
theorem Kept.cell {S : Nat → Prop} {a w : World} (h : Kept S a w) {p : Addr} {v : Value} (hc : a.cell? p = some v) (hn : ¬ S p.block) : w.cell? p = some v :=
  (World.cell?_of_block (h.block p.block (World.block_lt_of_cell? a p hc) hn)).trans hc
abbrev B8 (l : List Int) : List Value := l.map (Value.int .u8)
theorem Tryz.info5 : (Tryz.prog.info? 5).map (fun i => (i.zero, i.size, i.bytes)) = some (some (.int .u8 0), 1, 1) := by kernel_rfl
theorem ownsRow_kept {w w' : World} {B : Nat} {e : TypeId} {size : Nat} {v : Value} {n : Nat} {xs : List Value} {S : Nat → Prop} (h : w.ownsRow B e size v n xs) (hk : Kept S w w')
    (hn : ∀ k, v.ownBlock = some k → ¬ S k) : w'.ownsRow B e size v n xs := by
  refine ⟨h.1, ?_⟩
  rcases h.2 with hn' | ⟨g, cap, cur, rfl, hb, hgg, rest⟩
  · exact .inl hn'
  · refine .inr ⟨g, cap, cur, rfl, hb, ?_, rest⟩
    rw [hk.block g (Array.getElem?_eq_some_iff.1 hgg).1 (hn g rfl)]
    exact hgg
theorem free_of_block {w : World} {p o : Nat} {cs : Array Value} {t : TypeId} (h : w.heap[p]? = some (.cells cs t (0, 0))) : w.frozen? ⟨p, o, none⟩ = false := by
  simp [World.frozen?, h]
theorem hp_set {w : World} {g : Nat} {o : Obj} (h : w.heap[g]? = some o) {p : Addr} (hn : g ≠ p.block) (v : Value) : (w.setCell p v).heap[g]? = some o := (Below.heap_setCell _ _ _ _ hn).trans h
theorem hp_alloc {w : World} {g : Nat} {o : Obj} (h : w.heap[g]? = some o) (x : Obj) : (w.alloc x).heap[g]? = some o := (Below.heap_alloc _ _ _ (Array.getElem?_eq_some_iff.1 h).1).trans h
theorem hp_new (w : World) (x : Obj) : (w.alloc x).heap[w.heap.size]? = some x := (MapKept.heap_alloc w x).1
theorem hp_lt {w : World} {g : Nat} {o : Obj} (h : w.heap[g]? = some o) : g < w.heap.size := (Array.getElem?_eq_some_iff.1 h).1
theorem hp_below {w w' : World} {g : Nat} {o : Obj} {B : Nat} (h : w.heap[g]? = some o) (hk : Below B w w') (hg : g < B) : w'.heap[g]? = some o := (hk.block g hg).trans h
theorem hp_kept {w w' : World} {g : Nat} {o : Obj} {S : Nat → Prop} (h : w.heap[g]? = some o) (hk : Kept S w w') (hg : ¬ S g) : w'.heap[g]? = some o := (hk.block g (hp_lt h) hg).trans h
theorem undrew {B : Nat} {w w' : World} (h : Below B w.drew w') : Below B w w' := ⟨h.os, h.tape, h.output, h.size, h.block⟩
theorem Kept.drewN {S : Nat → Prop} {n : Nat} {w w' : World} (h : Kept S w w') : Kept S w (w'.drewN n) := ⟨h.os, h.tape, h.output, h.size, h.block⟩
theorem set_block {w : World} {p i : Nat} {c : Array Value} {t : TypeId} (h : w.heap[p]? = some (.cells c t (0, 0))) (v : Value) : (w.setCell ⟨p, i, none⟩ v).heap[p]? = some (.cells (c.setIfInBounds i v) t (0, 0)) := by
  simp [World.setCell, Array.getElem?_modify, h]
theorem cells5 {w : World} {p : Nat} {a b c d e : Value} {t : TypeId} (h : w.heap[p]? = some (.cells #[a, b, c, d, e] t (0, 0))) : w.cell? ⟨p, 0, none⟩ = some a ∧ w.cell? ⟨p, 1, none⟩ = some b ∧ w.cell? ⟨p, 2, none⟩ = some c ∧ w.cell? ⟨p, 3, none⟩ = some d ∧ w.cell? ⟨p, 4, none⟩ = some e := by
  refine ⟨?_, ?_, ?_, ?_, ?_⟩ <;> (rw [cell_of_row w p _ _ _ _ h]; rfl)
theorem cells2 {w : World} {p : Nat} {a b : Value} {t : TypeId} (h : w.heap[p]? = some (.cells #[a, b] t (0, 0))) : w.cell? ⟨p, 0, none⟩ = some a ∧ w.cell? ⟨p, 1, none⟩ = some b := by
  refine ⟨?_, ?_⟩ <;> (rw [cell_of_row w p _ _ _ _ h]; rfl)
theorem cells1 {w : World} {p : Nat} {a : Value} {t : TypeId} (h : w.heap[p]? = some (.cells #[a] t (0, 0))) : w.cell? ⟨p, 0, none⟩ = some a := by
  rw [cell_of_row w p _ _ _ _ h]; rfl
theorem cs_off {w : World} {b i j : Nat} (h : i ≠ j) (v : Value) : (w.setCell ⟨b, i, none⟩ v).cell? ⟨b, j, none⟩ = w.cell? ⟨b, j, none⟩ := World.cell?_setCell_other w _ _ v (fun e => h (by injection e))
theorem cs_blk {w : World} {p q : Nat} (h : p ≠ q) (i j : Nat) (v : Value) : (w.setCell ⟨p, i, none⟩ v).cell? ⟨q, j, none⟩ = w.cell? ⟨q, j, none⟩ := World.cell?_setCell_other w _ _ v (fun e => h (by injection e))
theorem dw_cell (W : World) (a : Addr) : W.drew.cell? a = W.cell? a := rfl
abbrev kl (a b : ByteArray) : Bool := Op.bytesLess a.toList b.toList
theorem bl_eq : ∀ (x y : List UInt8), Op.bytesLess x y = decide (x < y)
  | [], [] => by simp [Op.bytesLess]
  | _ :: _, [] => by simp [Op.bytesLess]
  | [], _ :: _ => by simp [Op.bytesLess]
  | a :: x, b :: y => by
    rw [Op.bytesLess, bl_eq x y]
    simp only [List.cons_lt_cons_iff]
    by_cases h1 : a < b <;> by_cases h2 : a = b <;> by_cases h3 : x < y <;> simp [h1, h2, h3]
theorem kl_irrefl (a : ByteArray) : kl a a = false := by simp [kl, bl_eq, List.lt_irrefl]
theorem kl_trans {a b c : ByteArray} (h1 : kl a b = true) (h2 : kl b c = true) : kl a c = true := by
  simp only [kl, bl_eq, decide_eq_true_eq] at *; exact List.lt_trans h1 h2
theorem kl_asymm {a b : ByteArray} (h1 : kl a b = true) : kl b a = false := by
  cases h : kl b a
  · rfl
  · have := kl_trans h1 h; rw [kl_irrefl] at this; exact absurd this (by simp)
theorem toList_inj {a b : ByteArray} (h : a.toList = b.toList) : a = b := by
  rw [Lib.toList_data, Lib.toList_data] at h
  cases a; cases b
  simp only [ByteArray.mk.injEq] at *
  exact Array.toList_inj.1 h
theorem kl_tri {a b : ByteArray} (h1 : kl a b = false) (h2 : kl b a = false) : a = b := by
  apply toList_inj
  simp only [kl, bl_eq, decide_eq_false_iff_not] at *
  exact List.le_antisymm (List.not_lt.1 h2) (List.not_lt.1 h1)
theorem keq_iff {a b : ByteArray} : (a.toList == b.toList) = true ↔ a = b := by
  constructor
  · intro h; exact toList_inj (by simpa using h)
  · intro h; subst h; simp
theorem keq_false {a b : ByteArray} (h : a ≠ b) : (a.toList == b.toList) = false := by
  cases e : a.toList == b.toList
  · rfl
  · exact absurd (keq_iff.1 e) h
theorem kl_ne {a b : ByteArray} (h : kl a b = true) : a ≠ b := by
  intro e; subst e; rw [kl_irrefl] at h; cases h
theorem kl_le {a b c : ByteArray} (h1 : kl a b = true) (h2 : kl c b = false) : kl a c = true := by
  cases h : kl b c
  · have := kl_tri h h2; subst this; exact h1
  · exact kl_trans h1 h
theorem kl_le' {a b c : ByteArray} (h1 : kl b a = false) (h2 : kl b c = true) : kl a c = true := by
  cases h : kl a b
  · have := kl_tri h h1; subst this; exact h2
  · exact kl_trans h h2
inductive Tr where
  | nil : Tr
  | node (b : Nat) (k : ByteArray) (v : Value) (l r : Tr) : Tr
abbrev En := Nat × ByteArray × Value
def Tr.ht : Tr → Nat
  | .nil => 0
  | .node _ _ _ l r => 1 + max l.ht r.ht
def Tr.toL : Tr → List En
  | .nil => []
  | .node b k v l r => l.toL ++ (b, k, v) :: r.toL
def Tr.addr : Tr → Option Addr
  | .nil => none
  | .node b _ _ _ _ => some ⟨b, 0, none⟩
abbrev Tr.ptr (t : Tr) : Value := .pointer t.addr
def blks (l : List En) : List Nat := l.map (·.1)
def Tr.bs (t : Tr) : List Nat := blks t.toL
def Tr.n (t : Tr) : Nat := t.toL.length
theorem Tr.ht_le : ∀ t : Tr, t.ht ≤ t.n
  | .nil => Nat.zero_le _
  | .node b k v l r => by
    have h1 := Tr.ht_le l
    have h2 := Tr.ht_le r
    simp only [Tr.ht, Tr.n, Tr.toL, List.length_append, List.length_cons] at *
    omega
@[simp] theorem blks_append (a b : List En) : blks (a ++ b) = blks a ++ blks b := by simp [blks]
@[simp] theorem blks_cons (x : En) (b : List En) : blks (x :: b) = x.1 :: blks b := rfl
@[simp] theorem blks_nil : blks [] = [] := rfl
theorem Tr.bs_node (b : Nat) (k : ByteArray) (v : Value) (l r : Tr) : (Tr.node b k v l r).bs = l.bs ++ b :: r.bs := by simp [Tr.bs, Tr.toL]
theorem Tr.bs_nil : Tr.nil.bs = [] := rfl
def Tr.At (T : TypeId) (w : World) : Tr → Prop
  | .nil => True
  | .node b k v l r => w.heap[b]? = some (.cells #[.string k, v, l.ptr, r.ptr, .int .i64 (1 + max (l.ht : Int) r.ht)] T (0, 0)) ∧ l.At T w ∧ r.At T w
theorem Tr.At.kept {T : TypeId} {w w' : World} {S : Nat → Prop} (hk : Kept S w w') : ∀ {t : Tr}, t.At T w → (∀ k, k ∈ t.bs → ¬ S k) → t.At T w'
  | .nil, _, _ => trivial
  | .node b k v l r, h, hn => by
    rw [Tr.bs_node] at hn
    obtain ⟨h0, h1, h2⟩ := h
    refine ⟨?_, h1.kept hk (fun k hm => hn k (by simp [hm])), h2.kept hk (fun k hm => hn k (by simp [hm]))⟩
    exact (hk.block b (hp_lt h0) (hn b (by simp))).trans h0
theorem Tr.At.lt {T : TypeId} {w : World} : ∀ {t : Tr}, t.At T w → ∀ k ∈ t.bs, k < w.heap.size
  | .nil, _ => by simp [Tr.bs_nil]
  | .node b k v l r, h => by
    obtain ⟨h0, h1, h2⟩ := h
    intro k hm
    rw [Tr.bs_node] at hm
    simp only [List.mem_append, List.mem_cons] at hm
    rcases hm with hm | rfl | hm
    · exact h1.lt k hm
    · exact hp_lt h0
    · exact h2.lt k hm
theorem Tr.At.heap {T : TypeId} {w w' : World} (e : w'.heap = w.heap) : ∀ {t : Tr}, t.At T w → t.At T w'
  | .nil, _ => trivial
  | .node _ _ _ _ _, h => ⟨by rw [e]; exact h.1, h.2.1.heap e, h.2.2.heap e⟩
def Rises (l : List En) : Prop := l.Pairwise (fun a b => kl a.2.1 b.2.1 = true)
def ins (x : En) (l : List En) : List En := l.takeWhile (fun e => !kl x.2.1 e.2.1) ++ x :: l.dropWhile (fun e => !kl x.2.1 e.2.1)
theorem tw_all {α : Type} {p : α → Bool} : ∀ {l : List α} (m : List α), (∀ x ∈ l, p x = true) → (l ++ m).takeWhile p = l ++ m.takeWhile p ∧ (l ++ m).dropWhile p = m.dropWhile p
  | [], _, _ => ⟨rfl, rfl⟩
  | a :: l, m, h => by
    have ha := h a (by simp)
    obtain ⟨h1, h2⟩ := tw_all (l := l) m (fun x hx => h x (by simp [hx]))
    simp [ha, h1, h2]
theorem tw_stop {α : Type} {p : α → Bool} {x : α} (hx : p x = false) (m : List α) : ∀ (l : List α), (l ++ x :: m).takeWhile p = l.takeWhile p ∧ (l ++ x :: m).dropWhile p = l.dropWhile p ++ x :: m
  | [] => by simp [List.takeWhile, List.dropWhile, hx]
  | a :: l => by
    obtain ⟨h1, h2⟩ := tw_stop hx m l
    cases ha : p a <;> simp [List.takeWhile, List.dropWhile, ha, h1, h2]
theorem ins_low {x c : En} {l r : List En} (h : kl x.2.1 c.2.1 = true) : ins x (l ++ c :: r) = ins x l ++ c :: r := by
  obtain ⟨h1, h2⟩ := tw_stop (p := fun e : En => !kl x.2.1 e.2.1) (x := c) (by simp [h]) r l
  simp only [ins, h1, h2, List.append_assoc, List.cons_append]
theorem ins_high {x c : En} {l r : List En} (hs : Rises (l ++ c :: r)) (h : kl x.2.1 c.2.1 = false) : ins x (l ++ c :: r) = l ++ c :: ins x r := by
  have hl : ∀ e ∈ l, (fun e : En => !kl x.2.1 e.2.1) e = true := by
    intro e he
    have : kl e.2.1 c.2.1 = true := (List.pairwise_append.1 hs).2.2 e he c (by simp)
    have h3 := kl_le this h
    simp [kl_asymm h3]
  obtain ⟨h1, h2⟩ := tw_all (p := fun e : En => !kl x.2.1 e.2.1) (c :: r) hl
  simp only [ins, h1, h2, List.takeWhile, List.dropWhile, h, Bool.not_false, List.append_assoc, List.cons_append]
theorem ins_perm (x : En) (l : List En) : (ins x l).Perm (x :: l) := by
  unfold ins
  exact (List.perm_middle).trans (by rw [List.takeWhile_append_dropWhile])
theorem ins_nil (x : En) : ins x [] = [x] := rfl
theorem blks_ins (x : En) (l : List En) : (blks (ins x l)).Perm (x.1 :: blks l) := (ins_perm x l).map (fun e : En => e.1)
theorem mem_blks_ins {x : En} {l : List En} {k : Nat} : k ∈ blks (ins x l) ↔ k = x.1 ∨ k ∈ blks l := by
  rw [(blks_ins x l).mem_iff]; simp
def ent (k : ByteArray) (l : List En) : Option En := l.find? (fun e => e.2.1.toList == k.toList)
def del (k : ByteArray) (l : List En) : List En := l.filter (fun e => !(e.2.1.toList == k.toList))
abbrev Nd (w : World) (b : Nat) (k : ByteArray) (v p q h : Value) : Prop := w.heap[b]? = some (.cells #[.string k, v, p, q, h] 154 (0, 0))
set_option maxHeartbeats 800000 in
theorem tall_any (t : Tr) (w : World) (h : t.At 154 w) : Calls Tryz.prog 137 #[t.ptr] w fun x w' => x = .returned (.int .i64 t.ht) ∧ w' = w := by
  cases t with
  | nil =>
    simp only [Tr.ptr, Tr.addr, Tr.ht]
    go_enter Tryz.func137, Tryz.ntmps137
    go_wp2
    go_ret
    exact ⟨rfl, rfl⟩
  | node b k v l r =>
    obtain ⟨-, -, -, -, c4⟩ := cells5 h.1
    have e : ((Tr.node b k v l r).ht : Int) = 1 + max (l.ht : Int) r.ht := by simp only [Tr.ht]; omega
    rw [e]
    simp only [Tr.ptr, Tr.addr]
    clear h e
    go_enter Tryz.func137, Tryz.ntmps137
    go_wp2
    go_ret
    exact ⟨rfl, rfl⟩
set_option maxHeartbeats 800000 in
theorem measure_any (b : Nat) (k : ByteArray) (v : Value) (h0 : Int) (l r : Tr) (w : World) (hb : Nd w b k v l.ptr r.ptr (.int .i64 h0)) (hl : l.At 154 w) (hr : r.At 154 w) (nl : l.ht ≤ 1000000) (nr : r.ht ≤ 1000000) :
    Calls Tryz.prog 136 #[.pointer (some ⟨b, 0, none⟩)] w fun x w' => x = .returned (.tuple #[]) ∧ Nd w' b k v l.ptr r.ptr (.int .i64 (1 + max (l.ht : Int) r.ht)) ∧ Kept (fun i => i = b) w w' := by
  obtain ⟨-, -, c2, c3, c4⟩ := cells5 hb
  have ff : ∀ o, w.frozen? ⟨b, o, none⟩ = false := fun o => free_of_block hb
  have HB := hid hb
  have HL := hid hl
  have HR := hid hr
  simp only [Tr.ptr] at *
  generalize hpl : l.addr = pl at *
  generalize hpr : r.addr = pr at *
  have T1 := hid (show ∀ W : World, W.heap = w.heap → Calls Tryz.prog 137 #[.pointer pl] W fun x w' => x = .returned (.int .i64 l.ht) ∧ w' = W from fun W hW => by rw [← hpl]; exact tall_any l W (Tr.At.heap hW hl))
  have T2 := hid (show ∀ W : World, W.heap = w.heap → Calls Tryz.prog 137 #[.pointer pr] W fun x w' => x = .returned (.int .i64 r.ht) ∧ w' = W from fun W hW => by rw [← hpr]; exact tall_any r W (Tr.At.heap hW hr))
  generalize hml : l.ht = ml at *
  generalize hmr : r.ht = mr at *
  clear hb hl hr hpl hpr hml hmr HL HR
  obtain ⟨M, hM⟩ : ∃ M, max (ml : Int) mr = M := ⟨_, rfl⟩
  have hM0 : 0 ≤ M := by omega
  have hM1 : M ≤ 1000000 := by omega
  rw [hM]
  have hM2 : (if ml < mr then (mr : Int) else ml) = M := by split <;> omega
  have hM3 : IntKind.i64.wrap (1 + M) = 1 + M := by rw [IntKind.wrap_i64]; omega
  clear nl nr
  go_enter Tryz.func136, Tryz.ntmps136
  go_wp2
  go_region_held3 (fun w' => w'.cell? ⟨b, 2, none⟩ = some (.pointer pl) ∧ w'.cell? ⟨b, 3, none⟩ = some (.pointer pr)) (first | (simp only [dw_cell, cs_off (show (4 : Nat) ≠ 2 by decide), cs_off (show (4 : Nat) ≠ 3 by decide), c2, c3, and_self]; done) | go_keep) (first
    | (go_at_call 137
       with_reducible show Calls _ _ #[.pointer pl] _ _
       refine (T1.out w.drew rfl).mono ?_
       rintro e w1 ⟨rfl, e1⟩
       rw [e1]
       clear e1 w1 T1)
    | (go_at_call 137
       refine (T2.out w.drew rfl).mono ?_
       rintro e w1 ⟨rfl, e1⟩
       rw [e1]
       clear e1 w1 T2))
  go_end0
  exact ⟨rfl, set_block (i := 4) HB.out _, ((Kept.refl (fun i => i = b) w).setCell (p := ⟨b, 4, none⟩) (fun _ => rfl) _).drew⟩
set_option maxHeartbeats 800000 in
theorem lowUp_any (b tb : Nat) (k tk : ByteArray) (v tv : Value) (h0 h1 : Int) (o m r : Tr) (w : World) (hb : Nd w b k v (.pointer (some ⟨tb, 0, none⟩)) r.ptr (.int .i64 h0)) (ht : Nd w tb tk tv o.ptr m.ptr (.int .i64 h1)) (ho : o.At 154 w) (hm : m.At 154 w) (hr : r.At 154 w)
    (hne : b ≠ tb) (hn : ∀ i, i ∈ o.bs ∨ i ∈ m.bs ∨ i ∈ r.bs → i ≠ b ∧ i ≠ tb) (no : o.ht ≤ 900000) (nm : m.ht ≤ 900000) (nr : r.ht ≤ 900000) :
    Calls Tryz.prog 139 #[.pointer (some ⟨b, 0, none⟩)] w fun x w' => x = .returned (.pointer (some ⟨tb, 0, none⟩)) ∧ (Tr.node tb tk tv o (Tr.node b k v m r)).At 154 w' ∧ Kept (fun i => i = b ∨ i = tb) w w' := by
  obtain ⟨-, -, c2, c3, c4⟩ := cells5 hb
  obtain ⟨-, -, d2, d3, d4⟩ := cells5 ht
  have ff : ∀ o, w.frozen? ⟨b, o, none⟩ = false := fun o => free_of_block hb
  have fg : ∀ o, w.frozen? ⟨tb, o, none⟩ = false := fun o => free_of_block ht
  have hne' : tb ≠ b := fun e => hne e.symm
  obtain ⟨W1, hW1⟩ : ∃ W1, W1 = (w.setCell ⟨b, 2, none⟩ m.ptr).setCell ⟨tb, 3, none⟩ (.pointer (some ⟨b, 0, none⟩)) := ⟨_, rfl⟩
  have K1 : Kept (fun i => i = b ∨ i = tb) w W1 := by
    rw [hW1]
    exact ((Kept.refl (fun i => i = b ∨ i = tb) w).setCell (p := ⟨b, 2, none⟩) (fun _ => .inl rfl) _).setCell (p := ⟨tb, 3, none⟩) (fun _ => .inr rfl) _
  have B1 : Nd W1 b k v m.ptr r.ptr (.int .i64 h0) := by rw [hW1]; exact hp_set (set_block (i := 2) hb _) hne _
  have B2 : Nd W1 tb tk tv o.ptr (.pointer (some ⟨b, 0, none⟩)) (.int .i64 h1) := by rw [hW1]; exact set_block (i := 3) (hp_set ht hne' _) _
  have hm' := hm.kept K1 (fun i hi e => by have := hn i (.inr (.inl hi)); omega)
  have hr' := hr.kept K1 (fun i hi e => by have := hn i (.inr (.inr hi)); omega)
  have ho' := ho.kept K1 (fun i hi e => by have := hn i (.inl hi); omega)
  have M1 := hid (measure_any b k v h0 m r W1 B1 hm' hr' (by omega) (by omega))
  have HH := hid (And.intro K1 (And.intro B1 (And.intro B2 (And.intro hm' (And.intro hr' ho')))))
  have MK := hid (show ∀ w2, Nd w2 b k v m.ptr r.ptr (.int .i64 (1 + max (m.ht : Int) r.ht)) → Kept (fun i => i = b) W1 w2 → Hid (Calls Tryz.prog 136 #[.pointer (some ⟨tb, 0, none⟩)] w2 fun x w' => x = .returned (.tuple #[]) ∧ Nd w' tb tk tv o.ptr (.pointer (some ⟨b, 0, none⟩)) (.int .i64 (1 + max (o.ht : Int) (Tr.node b k v m r).ht)) ∧ Kept (fun i => i = tb) w2 w') ∧ Hid ((Tr.node b k v m r).At 154 w2) ∧ Hid (o.At 154 w2) ∧ Hid (Kept (fun i => i = b ∨ i = tb) w w2) from by
    intro w2 n1 k1
    obtain ⟨K1, B1, B2, hm', hr', ho'⟩ := HH.out
    have a1 : (Tr.node b k v m r).At 154 w2 := ⟨n1, hm'.kept k1 (fun i hi e => (hn i (.inr (.inl hi))).1 e), hr'.kept k1 (fun i hi e => (hn i (.inr (.inr hi))).1 e)⟩
    have a2 : o.At 154 w2 := ho'.kept k1 (fun i hi e => (hn i (.inl hi)).1 e)
    have a3 : Nd w2 tb tk tv o.ptr (.pointer (some ⟨b, 0, none⟩)) (.int .i64 h1) := hp_kept B2 k1 hne'
    exact (And.intro (hid (measure_any tb tk tv h1 o (Tr.node b k v m r) w2 a3 a2 a1 (by first | omega | (simp only [Tr.ht]; omega)) (by first | omega | (simp only [Tr.ht]; omega)))) (And.intro (hid a1) (And.intro (hid a2) (hid (K1.trans k1 (fun i _ e => .inl e)))))))
  clear hb ht ho hm hr K1 B1 B2 hm' hr' ho' HH
  have HW := hid hW1
  clear hW1
  go_enter Tryz.func139, Tryz.ntmps139
  go_upto_region 3 with (fail)
  rw [← HW.out]
  go_wp2_with (first
    | (go_at_call 136
       refine M1.out.mono ?_
       rintro e w2 ⟨rfl, n1, k1⟩
       obtain ⟨M2, A1, A2, KK⟩ := MK.out w2 n1 k1
       clear M1 n1 k1)
    | (go_at_call 136
       refine M2.out.mono ?_
       rintro e w3 ⟨rfl, n2, k2⟩
       have HN := hid (And.intro n2 k2)
       clear M2 n2 k2))
  go_ret
  obtain ⟨n2, k2⟩ := HN.out
  have q1 : (Tr.node b k v m r).At 154 w3 := A1.out.kept k2 (fun i hi e => by
    rw [Tr.bs_node] at hi
    simp only [List.mem_append, List.mem_cons] at hi
    rcases hi with hi | hi | hi
    · exact (hn i (by simp [hi])).2 e
    · omega
    · exact (hn i (by simp [hi])).2 e)
  have q2 : o.At 154 w3 := A2.out.kept k2 (fun i hi e => (hn i (.inl hi)).2 e)
  exact ⟨rfl, ⟨n2, q2, q1⟩, KK.out.trans k2 (fun i _ e => .inr e)⟩
set_option maxHeartbeats 800000 in
theorem highUp_any (b tb : Nat) (k tk : ByteArray) (v tv : Value) (h0 h1 : Int) (o m r : Tr) (w : World) (hb : Nd w b k v r.ptr (.pointer (some ⟨tb, 0, none⟩)) (.int .i64 h0)) (ht : Nd w tb tk tv m.ptr o.ptr (.int .i64 h1)) (ho : o.At 154 w) (hm : m.At 154 w) (hr : r.At 154 w)
    (hne : b ≠ tb) (hn : ∀ i, i ∈ o.bs ∨ i ∈ m.bs ∨ i ∈ r.bs → i ≠ b ∧ i ≠ tb) (no : o.ht ≤ 900000) (nm : m.ht ≤ 900000) (nr : r.ht ≤ 900000) :
    Calls Tryz.prog 138 #[.pointer (some ⟨b, 0, none⟩)] w fun x w' => x = .returned (.pointer (some ⟨tb, 0, none⟩)) ∧ (Tr.node tb tk tv (Tr.node b k v r m) o).At 154 w' ∧ Kept (fun i => i = b ∨ i = tb) w w' := by
  obtain ⟨-, -, c2, c3, c4⟩ := cells5 hb
  obtain ⟨-, -, d2, d3, d4⟩ := cells5 ht
  have ff : ∀ o, w.frozen? ⟨b, o, none⟩ = false := fun o => free_of_block hb
  have fg : ∀ o, w.frozen? ⟨tb, o, none⟩ = false := fun o => free_of_block ht
  have hne' : tb ≠ b := fun e => hne e.symm
  obtain ⟨W1, hW1⟩ : ∃ W1, W1 = (w.setCell ⟨b, 3, none⟩ m.ptr).setCell ⟨tb, 2, none⟩ (.pointer (some ⟨b, 0, none⟩)) := ⟨_, rfl⟩
  have K1 : Kept (fun i => i = b ∨ i = tb) w W1 := by
    rw [hW1]
    exact ((Kept.refl (fun i => i = b ∨ i = tb) w).setCell (p := ⟨b, 3, none⟩) (fun _ => .inl rfl) _).setCell (p := ⟨tb, 2, none⟩) (fun _ => .inr rfl) _
  have B1 : Nd W1 b k v r.ptr m.ptr (.int .i64 h0) := by rw [hW1]; exact hp_set (set_block (i := 3) hb _) hne _
  have B2 : Nd W1 tb tk tv (.pointer (some ⟨b, 0, none⟩)) o.ptr (.int .i64 h1) := by rw [hW1]; exact set_block (i := 2) (hp_set ht hne' _) _
  have hm' := hm.kept K1 (fun i hi e => by have := hn i (.inr (.inl hi)); omega)
  have hr' := hr.kept K1 (fun i hi e => by have := hn i (.inr (.inr hi)); omega)
  have ho' := ho.kept K1 (fun i hi e => by have := hn i (.inl hi); omega)
  have M1 := hid (measure_any b k v h0 r m W1 B1 hr' hm' (by omega) (by omega))
  have HH := hid (And.intro K1 (And.intro B1 (And.intro B2 (And.intro hm' (And.intro hr' ho')))))
  have MK := hid (show ∀ w2, Nd w2 b k v r.ptr m.ptr (.int .i64 (1 + max (r.ht : Int) m.ht)) → Kept (fun i => i = b) W1 w2 → Hid (Calls Tryz.prog 136 #[.pointer (some ⟨tb, 0, none⟩)] w2 fun x w' => x = .returned (.tuple #[]) ∧ Nd w' tb tk tv (.pointer (some ⟨b, 0, none⟩)) o.ptr (.int .i64 (1 + max ((Tr.node b k v r m).ht : Int) o.ht)) ∧ Kept (fun i => i = tb) w2 w') ∧ Hid ((Tr.node b k v r m).At 154 w2) ∧ Hid (o.At 154 w2) ∧ Hid (Kept (fun i => i = b ∨ i = tb) w w2) from by
    intro w2 n1 k1
    obtain ⟨K1, B1, B2, hm', hr', ho'⟩ := HH.out
    have a1 : (Tr.node b k v r m).At 154 w2 := ⟨n1, hr'.kept k1 (fun i hi e => (hn i (.inr (.inr hi))).1 e), hm'.kept k1 (fun i hi e => (hn i (.inr (.inl hi))).1 e)⟩
    have a2 : o.At 154 w2 := ho'.kept k1 (fun i hi e => (hn i (.inl hi)).1 e)
    have a3 : Nd w2 tb tk tv (.pointer (some ⟨b, 0, none⟩)) o.ptr (.int .i64 h1) := hp_kept B2 k1 hne'
    exact (And.intro (hid (measure_any tb tk tv h1 (Tr.node b k v r m) o w2 a3 a1 a2 (by first | omega | (simp only [Tr.ht]; omega)) (by first | omega | (simp only [Tr.ht]; omega)))) (And.intro (hid a1) (And.intro (hid a2) (hid (K1.trans k1 (fun i _ e => .inl e)))))))
  clear hb ht ho hm hr K1 B1 B2 hm' hr' ho' HH
  have HW := hid hW1
  clear hW1
  go_enter Tryz.func138, Tryz.ntmps138
  go_upto_region 3 with (fail)
  rw [← HW.out]
  go_wp2_with (first
    | (go_at_call 136
       refine M1.out.mono ?_
       rintro e w2 ⟨rfl, n1, k1⟩
       obtain ⟨M2, A1, A2, KK⟩ := MK.out w2 n1 k1
       clear M1 n1 k1)
    | (go_at_call 136
       refine M2.out.mono ?_
       rintro e w3 ⟨rfl, n2, k2⟩
       have HN := hid (And.intro n2 k2)
       clear M2 n2 k2))
  go_ret
  obtain ⟨n2, k2⟩ := HN.out
  have q1 : (Tr.node b k v r m).At 154 w3 := A1.out.kept k2 (fun i hi e => by
    rw [Tr.bs_node] at hi
    simp only [List.mem_append, List.mem_cons] at hi
    rcases hi with hi | hi | hi
    · exact (hn i (by simp [hi])).2 e
    · omega
    · exact (hn i (by simp [hi])).2 e)
  have q2 : o.At 154 w3 := A2.out.kept k2 (fun i hi e => (hn i (.inl hi)).2 e)
  exact ⟨rfl, ⟨n2, q1, q2⟩, KK.out.trans k2 (fun i _ e => .inr e)⟩
end Go.Proofs.YthcoigbkdbkojabGreat.V
namespace Go.Proofs.YthcoigbkdbkojabGreat.V
theorem nd_two {b c : Nat} {L X R : List Nat} (h : (b :: ((L ++ c :: X) ++ R)).Nodup) : b ≠ c ∧ (∀ i, i ∈ L ∨ i ∈ X ∨ i ∈ R → i ≠ b ∧ i ≠ c) := by
  grind
theorem nd_three {b c d : Nat} {L X Y R : List Nat} (h : (b :: ((L ++ c :: (X ++ d :: Y)) ++ R)).Nodup) : b ≠ c ∧ b ≠ d ∧ c ≠ d ∧ (∀ i, i ∈ L ∨ i ∈ X ∨ i ∈ Y ∨ i ∈ R → i ≠ b ∧ i ≠ c ∧ i ≠ d) := by
  grind
theorem nd_two' {b c : Nat} {L X R : List Nat} (h : (b :: (R ++ (L ++ c :: X))).Nodup) : b ≠ c ∧ (∀ i, i ∈ L ∨ i ∈ X ∨ i ∈ R → i ≠ b ∧ i ≠ c) := by
  grind
theorem nd_three' {b c d : Nat} {X Y L R : List Nat} (h : (b :: (R ++ ((Y ++ d :: X) ++ c :: L))).Nodup) : b ≠ c ∧ b ≠ d ∧ c ≠ d ∧ (∀ i, i ∈ L ∨ i ∈ X ∨ i ∈ Y ∨ i ∈ R → i ≠ b ∧ i ≠ c ∧ i ≠ d) := by
  grind
end Go.Proofs.YthcoigbkdbkojabGreat.V
