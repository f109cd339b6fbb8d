import Derived.Test.YtkalppcekmlgbabBase
namespace Go.Proofs.Ytkalppcekmlgbab
open Go.RowKit

/-- Is a text below another? -/
abbrev kl (a b : ByteArray) : Bool := Op.bytesLess a.toList b.toList

theorem bl_eq : ∀ (x y : List UInt8), Op.bytesLess x y = decide (x < y)
  | [], [] => by simp [Op.bytesLess]
  | _ :: _, [] => by simp [Op.bytesLess]
  | [], _ :: _ => by simp [Op.bytesLess]
  | a :: x, b :: y => by
    rw [Op.bytesLess, bl_eq x y]
    simp only [List.cons_lt_cons_iff]
    by_cases h1 : a < b <;> by_cases h2 : a = b <;> by_cases h3 : x < y <;> simp [h1, h2, h3]

theorem kl_irrefl (a : ByteArray) : kl a a = false := by simp [kl, bl_eq, List.lt_irrefl]
theorem kl_trans {a b c : ByteArray} (h1 : kl a b = true) (h2 : kl b c = true) : kl a c = true := by
  simp only [kl, bl_eq, decide_eq_true_eq] at *; exact List.lt_trans h1 h2
theorem kl_asymm {a b : ByteArray} (h1 : kl a b = true) : kl b a = false := by
  cases h : kl b a
  · rfl
  · have := kl_trans h1 h; rw [kl_irrefl] at this; exact absurd this (by simp)
theorem toList_inj {a b : ByteArray} (h : a.toList = b.toList) : a = b := by
  rw [Lib.toList_data, Lib.toList_data] at h
  cases a; cases b
  simp only [ByteArray.mk.injEq] at *
  exact Array.toList_inj.1 h
theorem kl_tri {a b : ByteArray} (h1 : kl a b = false) (h2 : kl b a = false) : a = b := by
  apply toList_inj
  simp only [kl, bl_eq, decide_eq_false_iff_not] at *
  exact List.le_antisymm (List.not_lt.1 h2) (List.not_lt.1 h1)
theorem keq_iff {a b : ByteArray} : (a.toList == b.toList) = true ↔ a = b := by
  constructor
  · intro h; exact toList_inj (by simpa using h)
  · intro h; subst h; simp
theorem keq_false {a b : ByteArray} (h : a ≠ b) : (a.toList == b.toList) = false := by
  cases e : a.toList == b.toList
  · rfl
  · exact absurd (keq_iff.1 e) h
theorem kl_ne {a b : ByteArray} (h : kl a b = true) : a ≠ b := by
  intro e; subst e; rw [kl_irrefl] at h; cases h
/-- a below b, b not above c -/
theorem kl_le {a b c : ByteArray} (h1 : kl a b = true) (h2 : kl c b = false) : kl a c = true := by
  cases h : kl b c
  · have := kl_tri h h2; subst this; exact h1
  · exact kl_trans h1 h
theorem kl_le' {a b c : ByteArray} (h1 : kl b a = false) (h2 : kl b c = true) : kl a c = true := by
  cases h : kl a b
  · have := kl_tri h h1; subst this; exact h2
  · exact kl_trans h h2

/-- A tree as plain data: a node's block, its key, what it has, the trees below and above. -/
inductive Tr where
  | nil : Tr
  | node (b : Nat) (k : ByteArray) (v : Value) (l r : Tr) : Tr

abbrev En := Nat × ByteArray × Value

def Tr.ht : Tr → Nat
  | .nil => 0
  | .node _ _ _ l r => 1 + max l.ht r.ht
def Tr.toL : Tr → List En
  | .nil => []
  | .node b k v l r => l.toL ++ (b, k, v) :: r.toL
def Tr.addr : Tr → Option Addr
  | .nil => none
  | .node b _ _ _ _ => some ⟨b, 0, none⟩
abbrev Tr.ptr (t : Tr) : Value := .pointer t.addr
def blks (l : List En) : List Nat := l.map (·.1)
def Tr.bs (t : Tr) : List Nat := blks t.toL
/-- Nodes. -/
def Tr.n (t : Tr) : Nat := t.toL.length

theorem Tr.ht_le : ∀ t : Tr, t.ht ≤ t.n
  | .nil => Nat.zero_le _
  | .node b k v l r => by
    have h1 := Tr.ht_le l
    have h2 := Tr.ht_le r
    simp only [Tr.ht, Tr.n, Tr.toL, List.length_append, List.length_cons] at *
    omega

@[simp] theorem blks_append (a b : List En) : blks (a ++ b) = blks a ++ blks b := by simp [blks]
@[simp] theorem blks_cons (x : En) (b : List En) : blks (x :: b) = x.1 :: blks b := rfl
@[simp] theorem blks_nil : blks [] = [] := rfl
theorem Tr.bs_node (b : Nat) (k : ByteArray) (v : Value) (l r : Tr) : (Tr.node b k v l r).bs = l.bs ++ b :: r.bs := by simp [Tr.bs, Tr.toL]
theorem Tr.bs_nil : Tr.nil.bs = [] := rfl

/-- A tree in the heap (T: the nodes' type). -/
def Tr.At (T : TypeId) (w : World) : Tr → Prop
  | .nil => True
  | .node b k v l r => w.heap[b]? = some (.cells #[.string k, v, l.ptr, r.ptr, .int .i64 (1 + max (l.ht : Int) r.ht)] T (0, 0)) ∧ l.At T w ∧ r.At T w

theorem Tr.At.kept {T : TypeId} {w w' : World} {S : Nat → Prop} (hk : Kept S w w') : ∀ {t : Tr}, t.At T w → (∀ k, k ∈ t.bs → ¬ S k) → t.At T w'
  | .nil, _, _ => trivial
  | .node b k v l r, h, hn => by
    rw [Tr.bs_node] at hn
    obtain ⟨h0, h1, h2⟩ := h
    refine ⟨?_, h1.kept hk (fun k hm => hn k (by simp [hm])), h2.kept hk (fun k hm => hn k (by simp [hm]))⟩
    exact (hk.block b (hp_lt h0) (hn b (by simp))).trans h0

theorem Tr.At.lt {T : TypeId} {w : World} : ∀ {t : Tr}, t.At T w → ∀ k ∈ t.bs, k < w.heap.size
  | .nil, _ => by simp [Tr.bs_nil]
  | .node b k v l r, h => by
    obtain ⟨h0, h1, h2⟩ := h
    intro k hm
    rw [Tr.bs_node] at hm
    simp only [List.mem_append, List.mem_cons] at hm
    rcases hm with hm | rfl | hm
    · exact h1.lt k hm
    · exact hp_lt h0
    · exact h2.lt k hm

theorem Tr.At.heap {T : TypeId} {w w' : World} (e : w'.heap = w.heap) : ∀ {t : Tr}, t.At T w → t.At T w'
  | .nil, _ => trivial
  | .node _ _ _ _ _, h => ⟨by rw [e]; exact h.1, h.2.1.heap e, h.2.2.heap e⟩

/-- What a block of the tree is. -/
theorem Tr.At.blk {T : TypeId} {w : World} : ∀ {t : Tr}, t.At T w → ∀ e ∈ t.toL, ∃ p q h, w.heap[e.1]? = some (.cells #[.string e.2.1, e.2.2, p, q, .int .i64 h] T (0, 0))
  | .nil, _ => by simp [Tr.toL]
  | .node b k v l r, h => by
    obtain ⟨h0, h1, h2⟩ := h
    intro e hm
    simp only [Tr.toL, List.mem_append, List.mem_cons] at hm
    rcases hm with hm | rfl | hm
    · exact h1.blk e hm
    · exact ⟨_, _, _, h0⟩
    · exact h2.blk e hm

/-- Keys rise. -/
def Rises (l : List En) : Prop := l.Pairwise (fun a b => kl a.2.1 b.2.1 = true)

/-- The first parts: those not above (strictly below or the same) ... where a new entry goes. -/
def ins (x : En) (l : List En) : List En := l.takeWhile (fun e => !kl x.2.1 e.2.1) ++ x :: l.dropWhile (fun e => !kl x.2.1 e.2.1)

theorem tw_all {α : Type} {p : α → Bool} : ∀ {l : List α} (m : List α), (∀ x ∈ l, p x = true) → (l ++ m).takeWhile p = l ++ m.takeWhile p ∧ (l ++ m).dropWhile p = m.dropWhile p
  | [], _, _ => ⟨rfl, rfl⟩
  | a :: l, m, h => by
    have ha := h a (by simp)
    obtain ⟨h1, h2⟩ := tw_all (l := l) m (fun x hx => h x (by simp [hx]))
    simp [ha, h1, h2]

theorem tw_stop {α : Type} {p : α → Bool} {x : α} (hx : p x = false) (m : List α) : ∀ (l : List α), (l ++ x :: m).takeWhile p = l.takeWhile p ∧ (l ++ x :: m).dropWhile p = l.dropWhile p ++ x :: m
  | [] => by simp [List.takeWhile, List.dropWhile, hx]
  | a :: l => by
    obtain ⟨h1, h2⟩ := tw_stop hx m l
    cases ha : p a <;> simp [List.takeWhile, List.dropWhile, ha, h1, h2]

theorem ins_low {x c : En} {l r : List En} (h : kl x.2.1 c.2.1 = true) : ins x (l ++ c :: r) = ins x l ++ c :: r := by
  obtain ⟨h1, h2⟩ := tw_stop (p := fun e : En => !kl x.2.1 e.2.1) (x := c) (by simp [h]) r l
  simp only [ins, h1, h2, List.append_assoc, List.cons_append]

theorem ins_high {x c : En} {l r : List En} (hs : Rises (l ++ c :: r)) (h : kl x.2.1 c.2.1 = false) : ins x (l ++ c :: r) = l ++ c :: ins x r := by
  have hl : ∀ e ∈ l, (fun e : En => !kl x.2.1 e.2.1) e = true := by
    intro e he
    have : kl e.2.1 c.2.1 = true := (List.pairwise_append.1 hs).2.2 e he c (by simp)
    have h3 := kl_le this h
    simp [kl_asymm h3]
  obtain ⟨h1, h2⟩ := tw_all (p := fun e : En => !kl x.2.1 e.2.1) (c :: r) hl
  simp only [ins, h1, h2, List.takeWhile, List.dropWhile, h, Bool.not_false, List.append_assoc, List.cons_append]

theorem ins_perm (x : En) (l : List En) : (ins x l).Perm (x :: l) := by
  unfold ins
  exact (List.perm_middle).trans (by rw [List.takeWhile_append_dropWhile])

theorem ins_nil (x : En) : ins x [] = [x] := rfl

theorem blks_ins (x : En) (l : List En) : (blks (ins x l)).Perm (x.1 :: blks l) := (ins_perm x l).map (fun e : En => e.1)

theorem mem_blks_ins {x : En} {l : List En} {k : Nat} : k ∈ blks (ins x l) ↔ k = x.1 ∨ k ∈ blks l := by
  rw [(blks_ins x l).mem_iff]; simp

/-- The entry of a key. -/
def ent (k : ByteArray) (l : List En) : Option En := l.find? (fun e => e.2.1.toList == k.toList)
/-- Without a key. -/
def del (k : ByteArray) (l : List En) : List En := l.filter (fun e => !(e.2.1.toList == k.toList))

end Go.Proofs.Ytkalppcekmlgbab
