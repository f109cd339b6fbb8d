import Derived.Test.YthcoigbkdbkojaaGreatK04
import Derived.Test.YthcoigbkdbkojaaGreatK01
namespace Go.Proofs.YthcoigbkdbkojaaGreat.V
open Go.RowKit

theorem bs_ins {t t1 : Tr} {x : En} (e : t1.toL = ins x t.toL) (i : Nat) : i ∈ t1.bs ↔ i = x.1 ∨ i ∈ t.bs := by
  unfold Tr.bs; rw [e]; exact mem_blks_ins
theorem bs_ins_nodup {t t1 : Tr} {x : En} (e : t1.toL = ins x t.toL) (h : (x.1 :: t.bs).Nodup) : t1.bs.Nodup := by
  unfold Tr.bs; rw [e]; exact (blks_ins x t.toL).nodup_iff.2 h
theorem n_ins {t t1 : Tr} {x : En} (e : t1.toL = ins x t.toL) : t1.n = t.n + 1 := by
  unfold Tr.n; rw [e, (ins_perm x t.toL).length_eq]; simp

theorem nd_lv {b m : Nat} {L L' R : List Nat} (h : (m :: (L ++ b :: R)).Nodup) (hl : L'.Nodup) (hm : ∀ i, i ∈ L' ↔ i = m ∨ i ∈ L) : (b :: (L' ++ R)).Nodup := by
  grind
theorem nd_lv' {b m : Nat} {L L' R : List Nat} (h : (m :: (L ++ b :: R)).Nodup) (hl : L'.Nodup) (hm : ∀ i, i ∈ L' ↔ i = m ∨ i ∈ R) : (b :: (L ++ L')).Nodup := by
  grind

abbrev nilp : Value := .pointer none

/-- What a call on a tree leaves. -/
abbrev TPost (L : List En) (w : World) : Ending → World → Prop := fun x w' => ∃ t' : Tr, x = .returned t'.ptr ∧ t'.At 145 w' ∧ t'.toL = L ∧ Kept (fun i => i ∈ t'.bs) w w'

theorem relev_low {w W w1 : World} {b : Nat} {k : ByteArray} {v : Value} {h0 : Int} {pl : Value} {t1 r : Tr} (hB : Nd W b k v pl r.ptr (.int .i64 h0)) (hr : r.At 145 W) (k0 : Kept (fun _ => False) w W) (h1 : t1.At 145 w1) (k1 : Kept (fun i => i ∈ t1.bs) W w1)
    (hn1 : (b :: (t1.bs ++ r.bs)).Nodup) (nn : t1.n + r.n ≤ 800000) : Calls Tryz.prog 114 #[.pointer (some ⟨b, 0, none⟩)] (w1.setCell ⟨b, 2, none⟩ t1.ptr) (TPost (t1.toL ++ (b, k, v) :: r.toL) w) := by
  have q1 : b ∉ t1.bs ∧ b ∉ r.bs ∧ (∀ i ∈ r.bs, i ∉ t1.bs) := by grind
  obtain ⟨W4, hW4⟩ : ∃ W4, W4 = w1.setCell ⟨b, 2, none⟩ t1.ptr := ⟨_, rfl⟩
  rw [← hW4]
  have K4 : Kept (fun i => i = b) w1 W4 := by rw [hW4]; exact (Kept.refl (fun i => i = b) w1).setCell (p := ⟨b, 2, none⟩) (fun _ => rfl) _
  have B4 : Nd W4 b k v t1.ptr r.ptr (.int .i64 h0) := by rw [hW4]; exact set_block (i := 2) (hp_kept hB k1 q1.1) _
  have h1' : t1.At 145 W4 := h1.kept K4 (fun i hi e => q1.1 (e ▸ hi))
  have r' : r.At 145 W4 := (hr.kept k1 q1.2.2).kept K4 (fun i hi e => q1.2.1 (e ▸ hi))
  refine (levelled_any b k v h0 t1 r W4 B4 h1' r' hn1 nn).mono ?_
  rintro x w' ⟨t', rfl, a1, a2, a3⟩
  refine ⟨t', rfl, a1, a2, ?_⟩
  have hm : ∀ i, i ∈ t1.bs ∨ i = b → i ∈ t'.bs := by
    intro i hi
    apply mem_bs a2
    simp only [Tr.bs] at hi
    simp only [blks_append, blks_cons, List.mem_append, List.mem_cons]
    grind
  exact (((k0.mono (fun _ _ h => h.elim)).trans k1 (fun i _ e => hm i (.inl e))).trans K4 (fun i _ e => hm i (.inr e))).trans a3 (fun i _ e => e)

theorem relev_high {w W w1 : World} {b : Nat} {k : ByteArray} {v : Value} {h0 : Int} {pl : Value} {t1 r : Tr} (hB : Nd W b k v r.ptr pl (.int .i64 h0)) (hr : r.At 145 W) (k0 : Kept (fun _ => False) w W) (h1 : t1.At 145 w1) (k1 : Kept (fun i => i ∈ t1.bs) W w1)
    (hn1 : (b :: (r.bs ++ t1.bs)).Nodup) (nn : r.n + t1.n ≤ 800000) : Calls Tryz.prog 114 #[.pointer (some ⟨b, 0, none⟩)] (w1.setCell ⟨b, 3, none⟩ t1.ptr) (TPost (r.toL ++ (b, k, v) :: t1.toL) w) := by
  have q1 : b ∉ t1.bs ∧ b ∉ r.bs ∧ (∀ i ∈ r.bs, i ∉ t1.bs) := by grind
  obtain ⟨W4, hW4⟩ : ∃ W4, W4 = w1.setCell ⟨b, 3, none⟩ t1.ptr := ⟨_, rfl⟩
  rw [← hW4]
  have K4 : Kept (fun i => i = b) w1 W4 := by rw [hW4]; exact (Kept.refl (fun i => i = b) w1).setCell (p := ⟨b, 3, none⟩) (fun _ => rfl) _
  have B4 : Nd W4 b k v r.ptr t1.ptr (.int .i64 h0) := by rw [hW4]; exact set_block (i := 3) (hp_kept hB k1 q1.1) _
  have h1' : t1.At 145 W4 := h1.kept K4 (fun i hi e => q1.1 (e ▸ hi))
  have r' : r.At 145 W4 := (hr.kept k1 q1.2.2).kept K4 (fun i hi e => q1.2.1 (e ▸ hi))
  refine (levelled_any b k v h0 r t1 W4 B4 r' h1' hn1 nn).mono ?_
  rintro x w' ⟨t', rfl, a1, a2, a3⟩
  refine ⟨t', rfl, a1, a2, ?_⟩
  have hm : ∀ i, i ∈ t1.bs ∨ i = b → i ∈ t'.bs := by
    intro i hi
    apply mem_bs a2
    simp only [Tr.bs] at hi
    simp only [blks_append, blks_cons, List.mem_append, List.mem_cons]
    grind
  exact (((k0.mono (fun _ _ h => h.elim)).trans k1 (fun i _ e => hm i (.inl e))).trans K4 (fun i _ e => hm i (.inr e))).trans a3 (fun i _ e => e)

set_option maxRecDepth 100000 in
set_option maxHeartbeats 2000000 in
theorem with_any (m : Nat) (key : ByteArray) (u : Value) : ∀ (t : Tr) (w : World), Nd w m key u nilp nilp (.int .i64 1) → t.At 145 w → Rises t.toL → (m :: t.bs).Nodup → t.n ≤ 700000 →
    Calls Tryz.prog 69 #[t.ptr, .pointer (some ⟨m, 0, none⟩)] w (TPost (ins (m, key, u) t.toL) w) := by
  intro t
  induction t with
  | nil =>
    intro w hm _ _ _ _
    have HM := hid hm
    clear hm
    show Calls Tryz.prog 69 #[.pointer none, .pointer (some ⟨m, 0, none⟩)] w _
    go_enter Tryz.func69, Tryz.ntmps69
    go_wp2
    go_ret
    exact ⟨Tr.node m key u .nil .nil, rfl, ⟨HM.out, trivial, trivial⟩, rfl, (Kept.refl (fun _ => False) w).mono (fun _ _ h => h.elim)⟩
  | node b k v l r ihl ihr =>
    intro w hm ht hs hn nn
    have c0 := (cells5 ht.1).1
    have d0 := (cells5 hm).1
    have HT := hid (And.intro hm (And.intro ht (And.intro hs (And.intro hn nn))))
    have IL := hid ihl
    have IR := hid ihr
    clear hm ht hs hn nn ihl ihr
    show Calls Tryz.prog 69 #[.pointer (some ⟨b, 0, none⟩), .pointer (some ⟨m, 0, none⟩)] w _
    generalize hP : TPost (ins (m, key, u) (Tr.node b k v l r).toL) w = P
    have HP := hid hP
    clear hP
    cases hk : kl key k
    · skip
      have hk' : Op.bytesLess key.toList k.toList = false := hk
      go_enter Tryz.func69, Tryz.ntmps69
      go_wp2
      go_quiet (fail)
      have H2 := hid (show Nd (w.drewN nq) m key u nilp nilp (.int .i64 1) ∧ (Tr.node b k v l r).At 145 (w.drewN nq) ∧ Kept (fun _ => False) w (w.drewN nq) from ⟨HT.out.1, Tr.At.heap (w := w) (w' := w.drewN nq) rfl HT.out.2.1, (Kept.refl _ w).drewN⟩)
      generalize w.drewN nq = W at H2 ⊢
      clear c0 d0
      have c2 := (cells5 H2.out.2.1.1).2.2.2.1
      have I := hid (IR.out W H2.out.1 H2.out.2.1.2.2 (List.pairwise_cons.1 (List.pairwise_append.1 HT.out.2.2.1).2.1).2 (by have := HT.out.2.2.2.1; rw [Tr.bs_node] at this; grind) (by have := HT.out.2.2.2.2; simp only [Tr.n, Tr.toL, List.length_append, List.length_cons] at this ⊢; omega))
      generalize r.ptr = pp at c2 I
      have hb' : b ≠ m := by have := HT.out.2.2.2.1; rw [Tr.bs_node] at this; grind
      have HX := hid (fun (w1 : World) (t1 : Tr) (ex : t1.toL = ins (m, key, u) r.toL) (k1 : Kept (fun i => i ∈ t1.bs) W w1) => hp_kept H2.out.2.1.1 k1 (by rw [bs_ins ex]; have := HT.out.2.2.2.1; rw [Tr.bs_node] at this; grind))
      have HH := hid hk
      clear hk hb'
      go_wp2_with (first
        | (go_at_call 69
           refine I.out.mono ?_
           rintro e w1 ⟨t1, rfl, a1, ex, k1⟩
           have B0 := HX.out w1 t1 ex k1
           have f2 := (cells5 B0).2.2.2.1
           have ff : ∀ o, w1.frozen? ⟨b, o, none⟩ = false := fun o => free_of_block B0
           have N1 := hid (And.intro a1 (And.intro ex k1))
           clear a1 ex k1 B0)
        | (go_at_call 114
           refine (relev_high H2.out.2.1.1 H2.out.2.1.2.1 H2.out.2.2 N1.out.1 N1.out.2.2 (by have := HT.out.2.2.2.1; rw [Tr.bs_node] at this; exact nd_lv' this (bs_ins_nodup N1.out.2.1 (by grind)) (fun i => bs_ins N1.out.2.1 i)) (by have h1 := n_ins N1.out.2.1; have := HT.out.2.2.2.2; simp only [Tr.n, Tr.toL, List.length_append, List.length_cons] at this h1 ⊢; omega)).mono ?_
           rintro e w2 ⟨t2, rfl, hp⟩
           have N2 := hid hp
           clear hp))
      rw [← HP.out]
      obtain ⟨a1, a2, a3⟩ := N2.out
      refine ⟨t2, rfl, a1, ?_, a3⟩
      have ex := N1.out.2.1
      have hk := HH.out
      rw [a2]
      rw [ex, show (Tr.node b k v l r).toL = l.toL ++ (b, k, v) :: r.toL from rfl, ins_high (c := (b, k, v)) HT.out.2.2.1 hk]
    · skip
      have hk' : Op.bytesLess key.toList k.toList = true := hk
      go_enter Tryz.func69, Tryz.ntmps69
      go_wp2
      go_quiet (fail)
      have H2 := hid (show Nd (w.drewN nq) m key u nilp nilp (.int .i64 1) ∧ (Tr.node b k v l r).At 145 (w.drewN nq) ∧ Kept (fun _ => False) w (w.drewN nq) from ⟨HT.out.1, Tr.At.heap (w := w) (w' := w.drewN nq) rfl HT.out.2.1, (Kept.refl _ w).drewN⟩)
      generalize w.drewN nq = W at H2 ⊢
      clear c0 d0
      have c2 := (cells5 H2.out.2.1.1).2.2.1
      have I := hid (IL.out W H2.out.1 H2.out.2.1.2.1 (List.pairwise_append.1 HT.out.2.2.1).1 (by have := HT.out.2.2.2.1; rw [Tr.bs_node] at this; grind) (by have := HT.out.2.2.2.2; simp only [Tr.n, Tr.toL, List.length_append, List.length_cons] at this ⊢; omega))
      generalize l.ptr = pp at c2 I
      have hb' : b ≠ m := by have := HT.out.2.2.2.1; rw [Tr.bs_node] at this; grind
      have HX := hid (fun (w1 : World) (t1 : Tr) (ex : t1.toL = ins (m, key, u) l.toL) (k1 : Kept (fun i => i ∈ t1.bs) W w1) => hp_kept H2.out.2.1.1 k1 (by rw [bs_ins ex]; have := HT.out.2.2.2.1; rw [Tr.bs_node] at this; grind))
      have HH := hid hk
      clear hk hb'
      go_wp2_with (first
        | (go_at_call 69
           refine I.out.mono ?_
           rintro e w1 ⟨t1, rfl, a1, ex, k1⟩
           have B0 := HX.out w1 t1 ex k1
           have f2 := (cells5 B0).2.2.1
           have ff : ∀ o, w1.frozen? ⟨b, o, none⟩ = false := fun o => free_of_block B0
           have N1 := hid (And.intro a1 (And.intro ex k1))
           clear a1 ex k1 B0)
        | (go_at_call 114
           refine (relev_low H2.out.2.1.1 H2.out.2.1.2.2 H2.out.2.2 N1.out.1 N1.out.2.2 (by have := HT.out.2.2.2.1; rw [Tr.bs_node] at this; exact nd_lv this (bs_ins_nodup N1.out.2.1 (by grind)) (fun i => bs_ins N1.out.2.1 i)) (by have h1 := n_ins N1.out.2.1; have := HT.out.2.2.2.2; simp only [Tr.n, Tr.toL, List.length_append, List.length_cons] at this h1 ⊢; omega)).mono ?_
           rintro e w2 ⟨t2, rfl, hp⟩
           have N2 := hid hp
           clear hp))
      rw [← HP.out]
      obtain ⟨a1, a2, a3⟩ := N2.out
      refine ⟨t2, rfl, a1, ?_, a3⟩
      have ex := N1.out.2.1
      have hk := HH.out
      rw [a2]
      rw [ex, show (Tr.node b k v l r).toL = l.toL ++ (b, k, v) :: r.toL from rfl, ins_low (c := (b, k, v)) hk]

end Go.Proofs.YthcoigbkdbkojaaGreat.V

namespace Go.Proofs.YthcoigbkdbkojaaGreat.V
open Go.RowKit

abbrev cmpS (a b : ByteArray) : Int := Lib.compareBytes a.data.toList b.data.toList

set_option maxRecDepth 100000 in
set_option maxHeartbeats 800000 in
theorem cmpString_any (a b : ByteArray) (w : World) : Calls Tryz.prog 218 #[.string a, .string b] w fun x w' => x = .returned (.int .i64 (cmpS a b)) ∧ w' = w := by
  go_enter Tryz.func218, Tryz.ntmps218
  go_wp2
  rw [run_callFunc_extern Tryz.func220 (by kernel_rfl) (by kernel_rfl) (by kernel_rfl) (e := Extern.BytealgCompare.compare) (by kernel_rfl), Lib.run_compareString]
  simp only [Result.andThen]
  rw [Oper.upon_value]
  go_wp2
  go_ret
  exact ⟨rfl, rfl⟩

set_option maxRecDepth 100000 in
set_option maxHeartbeats 800000 in
theorem strCompare_any (a b : ByteArray) (w : World) : Calls Tryz.prog 209 #[.string a, .string b] w fun x w' => x = .returned (.int .i64 (cmpS a b)) ∧ w' = w := by
  go_enter Tryz.func209, Tryz.ntmps209
  go_wp2_with (
      go_at_call 218
      refine (cmpString_any _ _ _).mono ?_
      rintro e w1 ⟨rfl, e1⟩
      rw [e1]
      clear e1 w1)
  go_ret
  exact ⟨rfl, rfl⟩

/-- The height that a node's block tells. -/
def hOf (w : World) (v : Value) : Nat := match v with
  | .pointer (some a) => (match w.cell? ⟨a.block, 4, none⟩ with | some (.int _ h) => h.toNat | _ => 0)
  | _ => 0
theorem hOf_at {w : World} {t : Tr} (h : t.At 145 w) : hOf w t.ptr = t.ht := by
  cases t with
  | nil => rfl
  | node b k v l r =>
    have c4 := (cells5 h.1).2.2.2.2
    simp only [hOf, Tr.ptr, Tr.addr, c4, Tr.ht]
    omega

end Go.Proofs.YthcoigbkdbkojaaGreat.V

namespace Go.Proofs.YthcoigbkdbkojaaGreat.V
open Go.RowKit

theorem Rises.left {a b : List En} (h : Rises (a ++ b)) : Rises a := (List.pairwise_append.1 h).1
theorem Rises.right {a b : List En} (h : Rises (a ++ b)) : Rises b := (List.pairwise_append.1 h).2.1
theorem Rises.tail {c : En} {b : List En} (h : Rises (c :: b)) : Rises b := (List.pairwise_cons.1 h).2
theorem Rises.lo {a b : List En} {c : En} (h : Rises (a ++ c :: b)) : ∀ e ∈ a, kl e.2.1 c.2.1 = true := fun e he => (List.pairwise_append.1 h).2.2 e he c (by simp)
theorem Rises.hi {b : List En} {c : En} (h : Rises (c :: b)) : ∀ e ∈ b, kl c.2.1 e.2.1 = true := (List.pairwise_cons.1 h).1

theorem Rises.del {l : List En} (h : Rises l) (k : ByteArray) : Rises (del k l) := List.Pairwise.filter _ h
theorem blks_del_sub {l : List En} {k : ByteArray} : (blks (del k l)).Sublist (blks l) := (List.filter_sublist).map _

theorem bs_of {t : Tr} {L : List En} (e : t.toL = L) : t.bs = blks L := by unfold Tr.bs; rw [e]
theorem Tr.At.mem {w : World} : ∀ {t : Tr}, t.At 145 w → ∀ b k v, (b, k, v) ∈ t.toL → ∃ p q h, Nd w b k v (.pointer p) (.pointer q) (.int .i64 h)
  | .nil, _ => by simp [Tr.toL]
  | .node b k v l r, h => by
    obtain ⟨h0, h1, h2⟩ := h
    intro b' k' v' hm
    simp only [Tr.toL, List.mem_append, List.mem_cons] at hm
    rcases hm with hm | hm | hm
    · exact h1.mem b' k' v' hm
    · simp only [Prod.mk.injEq] at hm
      obtain ⟨rfl, rfl, rfl⟩ := hm
      exact ⟨_, _, _, h0⟩
    · exact h2.mem b' k' v' hm

theorem bs_sub {t t1 : Tr} {k : ByteArray} (e : t1.toL = del k t.toL) : t1.bs.Sublist t.bs := by
  rw [bs_of e]; exact blks_del_sub
theorem HX2 {w w1 : World} {b : Nat} {k key : ByteArray} {v p q h : Value} {l r t1 : Tr} (hB : Nd w b k v p q h) (hn : (l.bs ++ b :: r.bs).Nodup) (e : t1.toL = del key l.toL) (k1 : Kept (fun i => i ∈ t1.bs) w w1) : Nd w1 b k v p q h := by
  refine hp_kept hB k1 ?_
  have h3 := (bs_sub e).subset
  grind

end Go.Proofs.YthcoigbkdbkojaaGreat.V

namespace Go.Proofs.YthcoigbkdbkojaaGreat.V
open Go.RowKit

/-- A table in the heap. -/
structure Tb (cm : Value × Value) (w : World) (p : Nat) (t : Tr) : Prop where
  blk : w.heap[p]? = some (.cells #[t.ptr, .int .i64 t.n, cm.1, cm.2] 103 (0, 0))
  at_ : t.At 145 w
  rs : Rises t.toL
  nd : t.bs.Nodup

theorem Tb.kept {cm : Value × Value} {w w' : World} {p : Nat} {t : Tr} {S : Nat → Prop} (h : Tb cm w p t) (hk : Kept S w w') (h0 : ¬ S p) (h1 : ∀ i ∈ t.bs, ¬ S i) : Tb cm w' p t :=
  ⟨hp_kept h.blk hk h0, h.at_.kept hk h1, h.rs, h.nd⟩
theorem Tb.below {cm : Value × Value} {w w' : World} {p : Nat} {t : Tr} (h : Tb cm w p t) (hk : Below w.heap.size w w') : Tb cm w' p t :=
  h.kept (Kept.ofBelow hk) (fun e => e) (fun _ _ e => e)
theorem Tb.heap {cm : Value × Value} {w w' : World} {p : Nat} {t : Tr} (e : w'.heap = w.heap) (h : Tb cm w p t) : Tb cm w' p t := ⟨by rw [e]; exact h.blk, h.at_.heap e, h.rs, h.nd⟩

theorem bs_mem {t : Tr} {i : Nat} (h : i ∈ t.bs) : ∃ k v, (i, k, v) ∈ t.toL := by
  unfold Tr.bs blks at h
  obtain ⟨⟨a, k, v⟩, h1, rfl⟩ := List.mem_map.1 h
  exact ⟨k, v, h1⟩
theorem Tb.apart {cm : Value × Value} {w : World} {p : Nat} {t : Tr} (h : Tb cm w p t) : p ∉ t.bs := by
  intro hm
  obtain ⟨k, v, hm⟩ := bs_mem hm
  obtain ⟨a, b, c, e⟩ := h.at_.mem p k v hm
  have := h.blk
  rw [e] at this
  cases this

def optP : Option En → Value
  | none => .pointer none
  | some e => .pointer (some ⟨e.1, 0, none⟩)

/-- The first at or above a text; the first above it. -/
def geqE (text : ByteArray) (l : List En) : Option En := l.find? (fun e => !kl e.2.1 text)
def gtrE (text : ByteArray) (l : List En) : Option En := l.find? (fun e => kl text e.2.1)

theorem find_low {p : En → Bool} {l r : List En} {c : En} (h : p c = true) (o : Option En) : ((l ++ c :: r).find? p).or o = (l.find? p).or (some c) := by
  rw [List.find?_append, List.find?_cons, h]
  cases l.find? p <;> rfl
theorem find_high {p : En → Bool} {l r : List En} {c : En} (h : p c = false) (hl : ∀ e ∈ l, p e = true → p c = true) (o : Option En) : ((l ++ c :: r).find? p).or o = (r.find? p).or o := by
  have : l.find? p = none := by
    rw [List.find?_eq_none]
    intro e he hp
    rw [hl e he hp] at h
    cases h
  rw [List.find?_append, List.find?_cons, h, this]
  rfl

theorem gtr_eq (a b : ByteArray) : (!Op.bytesLess a.toList b.toList && !(a.toList == b.toList)) = kl b a := by
  cases h1 : kl a b
  · cases h2 : kl b a
    · have := kl_tri h1 h2
      subst this
      simp
    · have h1' : Op.bytesLess a.toList b.toList = false := h1
      rw [h1', keq_false (kl_ne h2).symm]; rfl
  · have h1' : Op.bytesLess a.toList b.toList = true := h1
    rw [h1', kl_asymm h1]; rfl

theorem cells4 {w : World} {p : Nat} {a b c d : Value} {t : TypeId} (h : w.heap[p]? = some (.cells #[a, b, c, d] t (0, 0))) : w.cell? ⟨p, 0, none⟩ = some a ∧ w.cell? ⟨p, 1, none⟩ = some b ∧ w.cell? ⟨p, 2, none⟩ = some c ∧ w.cell? ⟨p, 3, none⟩ = some d := by
  refine ⟨?_, ?_, ?_, ?_⟩ <;> (rw [cell_of_row w p _ _ _ _ h]; rfl)

/-- A captured text's box. -/
abbrev Bx (w : World) (g : Nat) (s : ByteArray) : Prop := w.heap[g]? = some (.cells #[.string s] 9 (0, 0))

set_option maxRecDepth 100000 in
set_option maxHeartbeats 800000 in
theorem far42 (g : Nat) (k text : ByteArray) (w : World) (h : Bx w g text) : Calls Tryz.prog 198 #[.string k, .pointer (some ⟨g, 0, none⟩)] w fun x w' => x = .returned (.bool (kl text k)) ∧ w' = w := by
  have c0 := cells1 h
  have H := hid (gtr_eq k text)
  clear h
  go_enter Tryz.func198, Tryz.ntmps198
  go_wp2
  go_ret
  exact ⟨by rw [← H.out]; rfl, rfl⟩

set_option maxRecDepth 100000 in
set_option maxHeartbeats 800000 in
theorem far45 (g : Nat) (k text : ByteArray) (w : World) (h : Bx w g text) : Calls Tryz.prog 150 #[.string k, .pointer (some ⟨g, 0, none⟩)] w fun x w' => x = .returned (.bool (!kl k text)) ∧ w' = w := by
  have c0 := cells1 h
  clear h
  go_enter Tryz.func150, Tryz.ntmps150
  go_wp2
  go_ret
  exact ⟨rfl, rfl⟩

set_option maxRecDepth 100000 in
set_option maxHeartbeats 800000 in
theorem least_nil (f : Value) (w : World) : Calls Tryz.prog 149 #[.pointer none, f] w fun x w' => x = .returned (.pointer none) ∧ w' = w := by
  go_enter Tryz.func149, Tryz.ntmps149
  go_wp2
  go_ret
  exact ⟨rfl, rfl⟩

theorem far_mono42 {l r : List En} {c : En} {text : ByteArray} (h : Rises (l ++ c :: r)) : ∀ e ∈ l, kl text e.2.1 = true → kl text c.2.1 = true := fun e he hp => kl_trans hp (h.lo e he)
theorem far_mono45 {l r : List En} {c : En} {text : ByteArray} (h : Rises (l ++ c :: r)) : ∀ e ∈ l, (!kl e.2.1 text) = true → (!kl c.2.1 text) = true := fun e he hp => by
  cases h2 : kl c.2.1 text
  · rfl
  · rw [kl_trans (h.lo e he) h2] at hp; cases hp

set_option maxRecDepth 100000 in
set_option maxHeartbeats 2000000 in
theorem least42 {cm : Value × Value} (p g : Nat) (text : ByteArray) (t : Tr) (w : World) (ht : Tb cm w p t) (hg : Bx w g text) :
    Calls Tryz.prog 149 #[.pointer (some ⟨p, 0, none⟩), .func (.func 198) #[] #[.pointer (some ⟨g, 0, none⟩)]] w fun x w' => x = .returned (optP (gtrE text t.toL)) ∧ ∃ n, w' = w.drewN n := by
  obtain ⟨c0, c1, -, -⟩ := cells4 ht.blk
  generalize hP : (fun (x : Ending) (w' : World) => x = .returned (optP (gtrE text t.toL)) ∧ ∃ n, w' = w.drewN n) = P
  have HP := hid hP
  have HT := hid (And.intro ht hg)
  clear hP ht hg c1
  go_enter Tryz.func149, Tryz.ntmps149
  go_wp2
  go_loopw [5, 6] (fun f i wr => ∃ (s : Tr) (o : Option En), f = optP o ∧ i = s.ptr ∧ Hid (wr.heap = w.heap ∧ (∃ n, wr = w.drewN n) ∧ s.At 145 wr ∧ Rises s.toL ∧ (s.toL.find? (fun e => kl text e.2.1)).or o = gtrE text t.toL)) (fun _ i wr => hOf wr i)
  case atStart => exact ⟨t, none, rfl, rfl, hid ⟨rfl, ⟨0, rfl⟩, HT.out.1.at_, HT.out.1.rs, by simp [gtrE]⟩⟩
  case round =>
    obtain ⟨s, o, rfl, rfl, hr⟩ := hrel
    cases s with
    | nil =>
      show Code.wp _ _ _ { tmps := #[_, _, _, _, _, _, .pointer none, _, _, _, _, _, _, _, _, _, _, _, _, _, _, _, _, _, _, _, _, _, _, _, _], defers := _ } _
      go_wp2
      rw [← HP.out]
      refine ⟨?_, hr.out.2.1⟩
      have := hr.out.2.2.2.2
      simp only [Tr.toL, List.find?_nil, Option.none_or] at this
      rw [← this]
      rfl
    | node b k v l r =>
      show Code.wp _ _ _ { tmps := #[_, _, _, _, _, _, .pointer (some ⟨b, 0, none⟩), _, _, _, _, _, _, _, _, _, _, _, _, _, _, _, _, _, _, _, _, _, _, _, _], defers := _ } _
      have d0 := (cells5 hr.out.2.2.1.1).1
      have d2 := (cells5 hr.out.2.2.1.1).2.2.1
      have d3 := (cells5 hr.out.2.2.1.1).2.2.2.1
      have hh : hOf wr (.pointer (some ⟨b, 0, none⟩)) = (Tr.node b k v l r).ht := hOf_at hr.out.2.2.1
      have e1 : hOf wr l.ptr = l.ht := hOf_at hr.out.2.2.1.2.1
      have e2 : hOf wr r.ptr = r.ht := hOf_at hr.out.2.2.1.2.2
      have HM := hid (show hOf wr l.ptr < hOf wr (.pointer (some ⟨b, 0, none⟩)) ∧ hOf wr r.ptr < hOf wr (.pointer (some ⟨b, 0, none⟩)) from by
        rw [hh, e1, e2]
        simp only [Tr.ht]
        omega)
      clear hh e1 e2
      have FF := hid (far42 g k text wr (by rw [Bx, hr.out.1]; exact HT.out.2))
      cases hf : (kl text k)
      · have F2 := hid (hf ▸ FF.out)
        have HF := hid hf
        clear FF hf
        go_wp2_with (
          go_at_call 198
          refine F2.out.mono ?_
          rintro e w1 ⟨rfl, e1⟩
          rw [e1]
          clear e1 w1)
        go_roundw
        case rel =>
          obtain ⟨q1, q2, q3, q4, q5⟩ := hr.out
          have q4' : Rises (l.toL ++ (b, k, v) :: r.toL) := q4
          refine ⟨r, o, rfl, rfl, hid ⟨q1, q2, q3.2.2, q4'.right.tail, ?_⟩⟩
          rw [← q5]
          exact (find_high (p := fun e : En => kl text e.2.1) (c := (b, k, v)) HF.out (far_mono42 q4') o).symm
        case measure => exact HM.out.2
      · have F2 := hid (hf ▸ FF.out)
        have HF := hid hf
        clear FF hf
        go_wp2_with (
          go_at_call 198
          refine F2.out.mono ?_
          rintro e w1 ⟨rfl, e1⟩
          rw [e1]
          clear e1 w1)
        go_quiet (fail)
        go_wp2
        go_roundw
        case rel =>
          obtain ⟨q1, q2, q3, q4, q5⟩ := hr.out
          have q4' : Rises (l.toL ++ (b, k, v) :: r.toL) := q4
          obtain ⟨n0, hn0⟩ := q2
          refine ⟨l, some (b, k, v), rfl, rfl, hid ⟨q1, ⟨n0 + nq, by rw [hn0, World.drewN_drewN]⟩, Tr.At.heap (w := wr) (w' := wr.drewN nq) rfl q3.2.1, q4'.left, ?_⟩⟩
          rw [← q5]
          exact (find_low (p := fun e : En => kl text e.2.1) (c := (b, k, v)) HF.out o).symm
        case measure => exact HM.out.1

set_option maxRecDepth 100000 in
set_option maxHeartbeats 2000000 in
theorem least45 {cm : Value × Value} (p g : Nat) (text : ByteArray) (t : Tr) (w : World) (ht : Tb cm w p t) (hg : Bx w g text) :
    Calls Tryz.prog 149 #[.pointer (some ⟨p, 0, none⟩), .func (.func 150) #[] #[.pointer (some ⟨g, 0, none⟩)]] w fun x w' => x = .returned (optP (geqE text t.toL)) ∧ ∃ n, w' = w.drewN n := by
  obtain ⟨c0, c1, -, -⟩ := cells4 ht.blk
  generalize hP : (fun (x : Ending) (w' : World) => x = .returned (optP (geqE text t.toL)) ∧ ∃ n, w' = w.drewN n) = P
  have HP := hid hP
  have HT := hid (And.intro ht hg)
  clear hP ht hg c1
  go_enter Tryz.func149, Tryz.ntmps149
  go_wp2
  go_loopw [5, 6] (fun f i wr => ∃ (s : Tr) (o : Option En), f = optP o ∧ i = s.ptr ∧ Hid (wr.heap = w.heap ∧ (∃ n, wr = w.drewN n) ∧ s.At 145 wr ∧ Rises s.toL ∧ (s.toL.find? (fun e => !kl e.2.1 text)).or o = geqE text t.toL)) (fun _ i wr => hOf wr i)
  case atStart => exact ⟨t, none, rfl, rfl, hid ⟨rfl, ⟨0, rfl⟩, HT.out.1.at_, HT.out.1.rs, by simp [geqE]⟩⟩
  case round =>
    obtain ⟨s, o, rfl, rfl, hr⟩ := hrel
    cases s with
    | nil =>
      show Code.wp _ _ _ { tmps := #[_, _, _, _, _, _, .pointer none, _, _, _, _, _, _, _, _, _, _, _, _, _, _, _, _, _, _, _, _, _, _, _, _], defers := _ } _
      go_wp2
      rw [← HP.out]
      refine ⟨?_, hr.out.2.1⟩
      have := hr.out.2.2.2.2
      simp only [Tr.toL, List.find?_nil, Option.none_or] at this
      rw [← this]
      rfl
    | node b k v l r =>
      show Code.wp _ _ _ { tmps := #[_, _, _, _, _, _, .pointer (some ⟨b, 0, none⟩), _, _, _, _, _, _, _, _, _, _, _, _, _, _, _, _, _, _, _, _, _, _, _, _], defers := _ } _
      have d0 := (cells5 hr.out.2.2.1.1).1
      have d2 := (cells5 hr.out.2.2.1.1).2.2.1
      have d3 := (cells5 hr.out.2.2.1.1).2.2.2.1
      have hh : hOf wr (.pointer (some ⟨b, 0, none⟩)) = (Tr.node b k v l r).ht := hOf_at hr.out.2.2.1
      have e1 : hOf wr l.ptr = l.ht := hOf_at hr.out.2.2.1.2.1
      have e2 : hOf wr r.ptr = r.ht := hOf_at hr.out.2.2.1.2.2
      have HM := hid (show hOf wr l.ptr < hOf wr (.pointer (some ⟨b, 0, none⟩)) ∧ hOf wr r.ptr < hOf wr (.pointer (some ⟨b, 0, none⟩)) from by
        rw [hh, e1, e2]
        simp only [Tr.ht]
        omega)
      clear hh e1 e2
      have FF := hid (far45 g k text wr (by rw [Bx, hr.out.1]; exact HT.out.2))
      cases hf : (!kl k text)
      · have F2 := hid (hf ▸ FF.out)
        have HF := hid hf
        clear FF hf
        go_wp2_with (
          go_at_call 150
          refine F2.out.mono ?_
          rintro e w1 ⟨rfl, e1⟩
          rw [e1]
          clear e1 w1)
        go_roundw
        case rel =>
          obtain ⟨q1, q2, q3, q4, q5⟩ := hr.out
          have q4' : Rises (l.toL ++ (b, k, v) :: r.toL) := q4
          refine ⟨r, o, rfl, rfl, hid ⟨q1, q2, q3.2.2, q4'.right.tail, ?_⟩⟩
          rw [← q5]
          exact (find_high (p := fun e : En => !kl e.2.1 text) (c := (b, k, v)) HF.out (far_mono45 q4') o).symm
        case measure => exact HM.out.2
      · have F2 := hid (hf ▸ FF.out)
        have HF := hid hf
        clear FF hf
        go_wp2_with (
          go_at_call 150
          refine F2.out.mono ?_
          rintro e w1 ⟨rfl, e1⟩
          rw [e1]
          clear e1 w1)
        go_quiet (fail)
        go_wp2
        go_roundw
        case rel =>
          obtain ⟨q1, q2, q3, q4, q5⟩ := hr.out
          have q4' : Rises (l.toL ++ (b, k, v) :: r.toL) := q4
          obtain ⟨n0, hn0⟩ := q2
          refine ⟨l, some (b, k, v), rfl, rfl, hid ⟨q1, ⟨n0 + nq, by rw [hn0, World.drewN_drewN]⟩, Tr.At.heap (w := wr) (w' := wr.drewN nq) rfl q3.2.1, q4'.left, ?_⟩⟩
          rw [← q5]
          exact (find_low (p := fun e : En => !kl e.2.1 text) (c := (b, k, v)) HF.out o).symm
        case measure => exact HM.out.1

end Go.Proofs.YthcoigbkdbkojaaGreat.V

namespace Go.Proofs.YthcoigbkdbkojaaGreat.V
open Go.RowKit

theorem below_new (w : World) (o : Obj) : Below w.heap.size w (w.alloc o) := (Below.refl _ _).alloc (Nat.le_refl _) _
theorem blw_drewN {B n : Nat} {w w' : World} (h : Below B w w') : Below B w (w'.drewN n) := ⟨h.os, h.tape, h.output, h.size, h.block⟩
theorem below_on {w0 w w1 : World} (h0 : Below w0.heap.size w0 w) (h : Below w.heap.size w w1) : Below w0.heap.size w0 w1 := h0.trans (h.mono h0.size)

theorem sliteClone_any (s : ByteArray) (w : World) (hlim : s.size ≤ 281474976710656) :
    Calls Tryz.prog 115 #[.string s] w fun e w' => e = .returned (.string s) ∧ Below w.heap.size w w' := Any.stringslite_Clone Tryz.laysM316 s w hlim

set_option maxRecDepth 100000 in
set_option maxHeartbeats 800000 in
theorem clone_any (s : ByteArray) (w : World) (hlim : s.size ≤ 281474976710656) :
    Calls Tryz.prog 70 #[.string s] w fun e w' => e = .returned (.string s) ∧ Below w.heap.size w w' := by
  have H := hid (sliteClone_any s w hlim)
  clear hlim
  go_enter Tryz.func70, Tryz.ntmps70
  go_wp2_with (go_at_call 115; refine H.out.mono ?_; rintro e w' ⟨rfl, hb⟩; have HB := hid hb; clear hb)
  go_ret
  exact ⟨rfl, HB.out⟩

/-- A table, or none. -/
def TO (w : World) (o : Option Addr) (t : Tr) : Prop := (o = none ∧ t = .nil) ∨ ∃ p cm, o = some ⟨p, 0, none⟩ ∧ Tb cm w p t

theorem TO.below {w w' : World} {o : Option Addr} {t : Tr} (h : TO w o t) (hk : Below w.heap.size w w') : TO w' o t := by
  rcases h with ⟨h1, h2⟩ | ⟨p, cm, h1, h2⟩
  · exact .inl ⟨h1, h2⟩
  · exact .inr ⟨p, cm, h1, h2.below hk⟩
theorem TO.heap {w w' : World} {o : Option Addr} {t : Tr} (e : w'.heap = w.heap) (h : TO w o t) : TO w' o t := by
  rcases h with ⟨h1, h2⟩ | ⟨p, cm, h1, h2⟩
  · exact .inl ⟨h1, h2⟩
  · exact .inr ⟨p, cm, h1, h2.heap e⟩
theorem TO.rs {w : World} {o : Option Addr} {t : Tr} (h : TO w o t) : Rises t.toL := by
  rcases h with ⟨_, rfl⟩ | ⟨p, _, _, h2⟩
  · exact List.Pairwise.nil
  · exact h2.rs
theorem TO.at_ {w : World} {o : Option Addr} {t : Tr} (h : TO w o t) : t.At 145 w := by
  rcases h with ⟨_, rfl⟩ | ⟨p, _, _, h2⟩
  · trivial
  · exact h2.at_

set_option maxRecDepth 100000 in
set_option maxHeartbeats 800000 in
theorem geq_any (o : Option Addr) (text : ByteArray) (t : Tr) (w : World) (ht : TO w o t) :
    Calls Tryz.prog 113 #[.pointer o, .string text] w fun x w' => x = .returned (optP (geqE text t.toL)) ∧ Below w.heap.size w w' := by
  obtain ⟨W, hW⟩ : ∃ W, W = w.alloc (.cells #[.string text] 9) := ⟨_, rfl⟩
  have L1 := hid (show Calls Tryz.prog 149 #[.pointer o, .func (.func 150) #[] #[.pointer (some ⟨w.heap.size, 0, none⟩)]] W (fun x w' => x = .returned (optP (geqE text t.toL)) ∧ Below w.heap.size w w') from by
    rw [hW]
    have hb := below_new w (.cells #[.string text] 9)
    rcases ht with ⟨rfl, rfl⟩ | ⟨p, cm, rfl, ht⟩
    · refine (least_nil _ _).mono ?_
      rintro x w' ⟨rfl, rfl⟩
      exact ⟨rfl, hb⟩
    · refine (least45 p w.heap.size text t _ (ht.below hb) (hp_new w _)).mono ?_
      rintro x w' ⟨rfl, n, rfl⟩
      exact ⟨rfl, blw_drewN hb⟩)
  have HW := hid hW
  have hmf : ∀ (fn : Fn) (first cap : Array Value) (w : World), (Instr.makeFunc fn first cap).run Tryz.prog w = .ok (.func fn first cap) w := fun _ _ _ _ => rfl
  clear ht hW
  go_enter Tryz.func113, Tryz.ntmps113
  go_wp2_with (
    go_at_call 149
    rw [← HW.out]
    refine L1.out.mono ?_
    rintro e w1 ⟨rfl, hb⟩
    have HB := hid hb
    clear hb)
  go_ret
  exact ⟨rfl, HB.out⟩

set_option maxRecDepth 100000 in
set_option maxHeartbeats 800000 in
theorem gtr_any (o : Option Addr) (text : ByteArray) (t : Tr) (w : World) (ht : TO w o t) :
    Calls Tryz.prog 177 #[.pointer o, .string text] w fun x w' => x = .returned (optP (gtrE text t.toL)) ∧ Below w.heap.size w w' := by
  obtain ⟨W, hW⟩ : ∃ W, W = w.alloc (.cells #[.string text] 9) := ⟨_, rfl⟩
  have L1 := hid (show Calls Tryz.prog 149 #[.pointer o, .func (.func 198) #[] #[.pointer (some ⟨w.heap.size, 0, none⟩)]] W (fun x w' => x = .returned (optP (gtrE text t.toL)) ∧ Below w.heap.size w w') from by
    rw [hW]
    have hb := below_new w (.cells #[.string text] 9)
    rcases ht with ⟨rfl, rfl⟩ | ⟨p, cm, rfl, ht⟩
    · refine (least_nil _ _).mono ?_
      rintro x w' ⟨rfl, rfl⟩
      exact ⟨rfl, hb⟩
    · refine (least42 p w.heap.size text t _ (ht.below hb) (hp_new w _)).mono ?_
      rintro x w' ⟨rfl, n, rfl⟩
      exact ⟨rfl, blw_drewN hb⟩)
  have HW := hid hW
  have hmf : ∀ (fn : Fn) (first cap : Array Value) (w : World), (Instr.makeFunc fn first cap).run Tryz.prog w = .ok (.func fn first cap) w := fun _ _ _ _ => rfl
  clear ht hW
  go_enter Tryz.func177, Tryz.ntmps177
  go_wp2_with (
    go_at_call 149
    rw [← HW.out]
    refine L1.out.mono ?_
    rintro e w1 ⟨rfl, hb⟩
    have HB := hid hb
    clear hb)
  go_ret
  exact ⟨rfl, HB.out⟩

theorem geq_mem {key : ByteArray} {l : List En} {e : En} (h : geqE key l = some e) : e ∈ l := List.mem_of_find?_eq_some h
theorem gtr_mem {key : ByteArray} {l : List En} {e : En} (h : gtrE key l = some e) : e ∈ l := List.mem_of_find?_eq_some h

/-- What at answers, of a list that rises: the entry of the key. -/
theorem ent_eq (key : ByteArray) : ∀ {l : List En}, Rises l → ent key l = (match geqE key l with | some e => if e.2.1 = key then some e else none | none => none)
  | [], _ => rfl
  | c :: l, h => by
    have ih := ent_eq key h.tail
    unfold ent geqE at *
    rw [List.find?_cons, List.find?_cons]
    cases h1 : kl c.2.1 key
    · have hn : ∀ e ∈ l, (e.2.1.toList == key.toList) = false := fun e he => by
        have := kl_le' h1 (h.hi e he)
        exact keq_false (fun e2 => by rw [e2, kl_irrefl] at this; cases this)
      by_cases h2 : c.2.1 = key
      · simp [h2]
      · have hf : l.find? (fun e => e.2.1.toList == key.toList) = none := by
          rw [List.find?_eq_none]; intro e he; rw [hn e he]; simp
        simp [keq_false h2, hf, h2]
    · have h2 := kl_ne h1
      simp [keq_false h2, ih]

theorem ent_some {key : ByteArray} {l : List En} {e : En} (h : ent key l = some e) : e ∈ l ∧ e.2.1 = key := by
  have h1 := List.mem_of_find?_eq_some h
  have h2 := List.find?_some h
  exact ⟨h1, keq_iff.1 h2⟩
theorem ent_none {key : ByteArray} {l : List En} (h : ent key l = none) : ∀ e ∈ l, e.2.1 ≠ key := by
  intro e he e2
  have := List.find?_eq_none.1 h e he
  rw [e2] at this
  simp at this

set_option maxRecDepth 100000 in
set_option maxHeartbeats 2000000 in
theorem at_any (o : Option Addr) (key : ByteArray) (t : Tr) (w : World) (ht : TO w o t) :
    Calls Tryz.prog 68 #[.pointer o, .string key] w fun x w' => x = .returned (optP (ent key t.toL)) ∧ Below w.heap.size w w' := by
  have G := hid (geq_any o key t w ht)
  have HE := hid (ent_eq key ht.rs)
  have HM := hid (fun (e : En) (he : e ∈ t.toL) => ht.at_.mem e.1 e.2.1 e.2.2 he)
  clear ht
  cases hq : geqE key t.toL with
  | none =>
    have G2 := hid (hq ▸ G.out)
    have HE2 := hid (show ent key t.toL = none by rw [HE.out, hq])
    clear G hq HE
    go_enter Tryz.func68, Tryz.ntmps68
    go_wp2_with (
      go_at_call 113
      refine G2.out.mono ?_
      rintro e w1 ⟨e1, hb⟩
      have e2 : e = .returned (.pointer none) := e1
      subst e2
      have HB := hid hb
      clear hb e1)
    go_ret
    exact ⟨by rw [HE2.out]; rfl, HB.out⟩
  | some c =>
    obtain ⟨b, k, v⟩ := c
    have G2 := hid (hq ▸ G.out)
    obtain ⟨p', q', h', nd⟩ := HM.out (b, k, v) (geq_mem hq)
    have d0 := (cells5 nd).1
    by_cases hk : k = key
    · subst hk
      have HE2 := hid (show ent k t.toL = some (b, k, v) by rw [HE.out, hq]; simp)
      have hbl := World.block_lt_of_cell? _ _ d0
      clear G hq HE HM nd
      go_enter Tryz.func68, Tryz.ntmps68
      go_wp2_with (
        go_at_call 113
        refine G2.out.mono ?_
        rintro e w1 ⟨e1, hb⟩
        have e2 : e = .returned (.pointer (some ⟨b, 0, none⟩)) := e1
        subst e2
        have f0 := (hb.cell hbl).trans d0
        have HB := hid hb
        clear hb e1)
      go_ret
      exact ⟨by rw [HE2.out]; rfl, HB.out⟩
    · have HE2 := hid (show ent key t.toL = none by rw [HE.out, hq]; simp [hk])
      have hbl := World.block_lt_of_cell? _ _ d0
      have hke := keq_false hk
      clear G hq HE HM nd hk
      go_enter Tryz.func68, Tryz.ntmps68
      go_wp2_with (
        go_at_call 113
        refine G2.out.mono ?_
        rintro e w1 ⟨e1, hb⟩
        have e2 : e = .returned (.pointer (some ⟨b, 0, none⟩)) := e1
        subst e2
        have f0 := (hb.cell hbl).trans d0
        have HB := hid hb
        clear hb e1)
      go_ret
      exact ⟨by rw [HE2.out]; rfl, HB.out⟩

end Go.Proofs.YthcoigbkdbkojaaGreat.V

namespace Go.Proofs.YthcoigbkdbkojaaGreat.V
open Go.RowKit

/-- A zero value of the table's type. -/
abbrev zv : Value := .pointer none
def getV (key : ByteArray) (l : List En) : Value := match ent key l with | some e => .tuple #[e.2.2, .bool true] | none => .tuple #[zv, .bool false]

set_option maxRecDepth 100000 in
set_option maxHeartbeats 2000000 in
theorem get_any (o : Option Addr) (key : ByteArray) (t : Tr) (w : World) (ht : TO w o t) :
    Calls Tryz.prog 67 #[.pointer o, .string key] w fun x w' => x = .returned (getV key t.toL) ∧ Below w.heap.size w w' := by
  have G := hid (at_any o key t w ht)
  have HM := hid (fun (e : En) (he : e ∈ t.toL) => ht.at_.mem e.1 e.2.1 e.2.2 he)
  clear ht
  cases hq : ent key t.toL with
  | none =>
    have G2 := hid (hq ▸ G.out)
    have HE2 := hid hq
    clear G hq
    go_enter Tryz.func67, Tryz.ntmps67
    go_wp2_with (
      go_at_call 68
      refine G2.out.mono ?_
      rintro e w1 ⟨e1, hb⟩
      have e2 : e = .returned (.pointer none) := e1
      subst e2
      have HB := hid hb
      clear hb e1)
    go_ret2
    exact ⟨by rw [getV, HE2.out]; rfl, below_on HB.out (below_new _ _)⟩
  | some c =>
    obtain ⟨b, k, v⟩ := c
    have G2 := hid (hq ▸ G.out)
    obtain ⟨p', q', h', nd⟩ := HM.out (b, k, v) (ent_some hq).1
    have d0 := (cells5 nd).2.1
    have HE2 := hid hq
    have hbl := World.block_lt_of_cell? _ _ d0
    clear G hq HM nd
    go_enter Tryz.func67, Tryz.ntmps67
    go_wp2_with (
      go_at_call 68
      refine G2.out.mono ?_
      rintro e w1 ⟨e1, hb⟩
      have e2 : e = .returned (.pointer (some ⟨b, 0, none⟩)) := e1
      subst e2
      have f0 := (hb.cell hbl).trans d0
      have HB := hid hb
      clear hb e1)
    go_ret2
    exact ⟨by rw [getV, HE2.out]; rfl, HB.out⟩

def nextV (above : ByteArray) (l : List En) : Value := match gtrE above l with | some e => .tuple #[.string e.2.1, .bool true] | none => .tuple #[.string ⟨#[]⟩, .bool false]

/-- Keys are no longer than a text can be. -/
def Short (t : Tr) : Prop := ∀ e ∈ t.toL, e.2.1.size ≤ 281474976710656

end Go.Proofs.YthcoigbkdbkojaaGreat.V
