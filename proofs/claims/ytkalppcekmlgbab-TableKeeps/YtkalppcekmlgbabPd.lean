import Derived.Test.YtkalppcekmlgbabPc
namespace Go.Proofs.Ytkalppcekmlgbab
open Go.RowKit

theorem bs_ins {t t1 : Tr} {x : En} (e : t1.toL = ins x t.toL) (i : Nat) : i ∈ t1.bs ↔ i = x.1 ∨ i ∈ t.bs := by
  unfold Tr.bs; rw [e]; exact mem_blks_ins
theorem bs_ins_nodup {t t1 : Tr} {x : En} (e : t1.toL = ins x t.toL) (h : (x.1 :: t.bs).Nodup) : t1.bs.Nodup := by
  unfold Tr.bs; rw [e]; exact (blks_ins x t.toL).nodup_iff.2 h
theorem n_ins {t t1 : Tr} {x : En} (e : t1.toL = ins x t.toL) : t1.n = t.n + 1 := by
  unfold Tr.n; rw [e, (ins_perm x t.toL).length_eq]; simp

theorem nd_lv {b m : Nat} {L L' R : List Nat} (h : (m :: (L ++ b :: R)).Nodup) (hl : L'.Nodup) (hm : ∀ i, i ∈ L' ↔ i = m ∨ i ∈ L) : (b :: (L' ++ R)).Nodup := by
  grind
theorem nd_lv' {b m : Nat} {L L' R : List Nat} (h : (m :: (L ++ b :: R)).Nodup) (hl : L'.Nodup) (hm : ∀ i, i ∈ L' ↔ i = m ∨ i ∈ R) : (b :: (L ++ L')).Nodup := by
  grind

abbrev nilp : Value := .pointer none

/-- What a call on a tree leaves. -/
abbrev TPost (L : List En) (w : World) : Ending → World → Prop := fun x w' => ∃ t' : Tr, x = .returned t'.ptr ∧ t'.At 93 w' ∧ t'.toL = L ∧ Kept (fun i => i ∈ t'.bs) w w'

theorem relev_low {w W w1 : World} {b : Nat} {k : ByteArray} {v : Value} {h0 : Int} {pl : Value} {t1 r : Tr} (hB : Nd W b k v pl r.ptr (.int .i64 h0)) (hr : r.At 93 W) (k0 : Kept (fun _ => False) w W) (h1 : t1.At 93 w1) (k1 : Kept (fun i => i ∈ t1.bs) W w1)
    (hn1 : (b :: (t1.bs ++ r.bs)).Nodup) (nn : t1.n + r.n ≤ 800000) : Calls Try.prog 56 #[.pointer (some ⟨b, 0, none⟩)] (w1.setCell ⟨b, 2, none⟩ t1.ptr) (TPost (t1.toL ++ (b, k, v) :: r.toL) w) := by
  have q1 : b ∉ t1.bs ∧ b ∉ r.bs ∧ (∀ i ∈ r.bs, i ∉ t1.bs) := by grind
  obtain ⟨W4, hW4⟩ : ∃ W4, W4 = w1.setCell ⟨b, 2, none⟩ t1.ptr := ⟨_, rfl⟩
  rw [← hW4]
  have K4 : Kept (fun i => i = b) w1 W4 := by rw [hW4]; exact (Kept.refl (fun i => i = b) w1).setCell (p := ⟨b, 2, none⟩) (fun _ => rfl) _
  have B4 : Nd W4 b k v t1.ptr r.ptr (.int .i64 h0) := by rw [hW4]; exact set_block (i := 2) (hp_kept hB k1 q1.1) _
  have h1' : t1.At 93 W4 := h1.kept K4 (fun i hi e => q1.1 (e ▸ hi))
  have r' : r.At 93 W4 := (hr.kept k1 q1.2.2).kept K4 (fun i hi e => q1.2.1 (e ▸ hi))
  refine (levelled_any b k v h0 t1 r W4 B4 h1' r' hn1 nn).mono ?_
  rintro x w' ⟨t', rfl, a1, a2, a3⟩
  refine ⟨t', rfl, a1, a2, ?_⟩
  have hm : ∀ i, i ∈ t1.bs ∨ i = b → i ∈ t'.bs := by
    intro i hi
    apply mem_bs a2
    simp only [Tr.bs] at hi
    simp only [blks_append, blks_cons, List.mem_append, List.mem_cons]
    grind
  exact (((k0.mono (fun _ _ h => h.elim)).trans k1 (fun i _ e => hm i (.inl e))).trans K4 (fun i _ e => hm i (.inr e))).trans a3 (fun i _ e => e)

theorem relev_high {w W w1 : World} {b : Nat} {k : ByteArray} {v : Value} {h0 : Int} {pl : Value} {t1 r : Tr} (hB : Nd W b k v r.ptr pl (.int .i64 h0)) (hr : r.At 93 W) (k0 : Kept (fun _ => False) w W) (h1 : t1.At 93 w1) (k1 : Kept (fun i => i ∈ t1.bs) W w1)
    (hn1 : (b :: (r.bs ++ t1.bs)).Nodup) (nn : r.n + t1.n ≤ 800000) : Calls Try.prog 56 #[.pointer (some ⟨b, 0, none⟩)] (w1.setCell ⟨b, 3, none⟩ t1.ptr) (TPost (r.toL ++ (b, k, v) :: t1.toL) w) := by
  have q1 : b ∉ t1.bs ∧ b ∉ r.bs ∧ (∀ i ∈ r.bs, i ∉ t1.bs) := by grind
  obtain ⟨W4, hW4⟩ : ∃ W4, W4 = w1.setCell ⟨b, 3, none⟩ t1.ptr := ⟨_, rfl⟩
  rw [← hW4]
  have K4 : Kept (fun i => i = b) w1 W4 := by rw [hW4]; exact (Kept.refl (fun i => i = b) w1).setCell (p := ⟨b, 3, none⟩) (fun _ => rfl) _
  have B4 : Nd W4 b k v r.ptr t1.ptr (.int .i64 h0) := by rw [hW4]; exact set_block (i := 3) (hp_kept hB k1 q1.1) _
  have h1' : t1.At 93 W4 := h1.kept K4 (fun i hi e => q1.1 (e ▸ hi))
  have r' : r.At 93 W4 := (hr.kept k1 q1.2.2).kept K4 (fun i hi e => q1.2.1 (e ▸ hi))
  refine (levelled_any b k v h0 r t1 W4 B4 r' h1' hn1 nn).mono ?_
  rintro x w' ⟨t', rfl, a1, a2, a3⟩
  refine ⟨t', rfl, a1, a2, ?_⟩
  have hm : ∀ i, i ∈ t1.bs ∨ i = b → i ∈ t'.bs := by
    intro i hi
    apply mem_bs a2
    simp only [Tr.bs] at hi
    simp only [blks_append, blks_cons, List.mem_append, List.mem_cons]
    grind
  exact (((k0.mono (fun _ _ h => h.elim)).trans k1 (fun i _ e => hm i (.inl e))).trans K4 (fun i _ e => hm i (.inr e))).trans a3 (fun i _ e => e)

set_option maxRecDepth 100000 in
set_option maxHeartbeats 2000000 in
theorem with_any (m : Nat) (key : ByteArray) (u : Value) : ∀ (t : Tr) (w : World), Nd w m key u nilp nilp (.int .i64 1) → t.At 93 w → Rises t.toL → (m :: t.bs).Nodup → t.n ≤ 700000 →
    Calls Try.prog 39 #[t.ptr, .pointer (some ⟨m, 0, none⟩)] w (TPost (ins (m, key, u) t.toL) w) := by
  intro t
  induction t with
  | nil =>
    intro w hm _ _ _ _
    have HM := hid hm
    clear hm
    show Calls Try.prog 39 #[.pointer none, .pointer (some ⟨m, 0, none⟩)] w _
    go_enter Try.func39, Try.ntmps39
    go_wp2
    go_ret
    exact ⟨Tr.node m key u .nil .nil, rfl, ⟨HM.out, trivial, trivial⟩, rfl, (Kept.refl (fun _ => False) w).mono (fun _ _ h => h.elim)⟩
  | node b k v l r ihl ihr =>
    intro w hm ht hs hn nn
    have c0 := (cells5 ht.1).1
    have d0 := (cells5 hm).1
    have HT := hid (And.intro hm (And.intro ht (And.intro hs (And.intro hn nn))))
    have IL := hid ihl
    have IR := hid ihr
    clear hm ht hs hn nn ihl ihr
    show Calls Try.prog 39 #[.pointer (some ⟨b, 0, none⟩), .pointer (some ⟨m, 0, none⟩)] w _
    generalize hP : TPost (ins (m, key, u) (Tr.node b k v l r).toL) w = P
    have HP := hid hP
    clear hP
    cases hk : kl key k
    · skip
      have hk' : Op.bytesLess key.toList k.toList = false := hk
      go_enter Try.func39, Try.ntmps39
      go_wp2
      go_quiet (fail)
      have H2 := hid (show Nd (w.drewN nq) m key u nilp nilp (.int .i64 1) ∧ (Tr.node b k v l r).At 93 (w.drewN nq) ∧ Kept (fun _ => False) w (w.drewN nq) from ⟨HT.out.1, Tr.At.heap (w := w) (w' := w.drewN nq) rfl HT.out.2.1, (Kept.refl _ w).drewN⟩)
      generalize w.drewN nq = W at H2 ⊢
      clear c0 d0
      have c2 := (cells5 H2.out.2.1.1).2.2.2.1
      have I := hid (IR.out W H2.out.1 H2.out.2.1.2.2 (List.pairwise_cons.1 (List.pairwise_append.1 HT.out.2.2.1).2.1).2 (by have := HT.out.2.2.2.1; rw [Tr.bs_node] at this; grind) (by have := HT.out.2.2.2.2; simp only [Tr.n, Tr.toL, List.length_append, List.length_cons] at this ⊢; omega))
      generalize r.ptr = pp at c2 I
      have hb' : b ≠ m := by have := HT.out.2.2.2.1; rw [Tr.bs_node] at this; grind
      have HX := hid (fun (w1 : World) (t1 : Tr) (ex : t1.toL = ins (m, key, u) r.toL) (k1 : Kept (fun i => i ∈ t1.bs) W w1) => hp_kept H2.out.2.1.1 k1 (by rw [bs_ins ex]; have := HT.out.2.2.2.1; rw [Tr.bs_node] at this; grind))
      have HH := hid hk
      clear hk hb'
      go_wp2_with (first
        | (go_at_call 39
           refine I.out.mono ?_
           rintro e w1 ⟨t1, rfl, a1, ex, k1⟩
           have B0 := HX.out w1 t1 ex k1
           have f2 := (cells5 B0).2.2.2.1
           have ff : ∀ o, w1.frozen? ⟨b, o, none⟩ = false := fun o => free_of_block B0
           have N1 := hid (And.intro a1 (And.intro ex k1))
           clear a1 ex k1 B0)
        | (go_at_call 56
           refine (relev_high H2.out.2.1.1 H2.out.2.1.2.1 H2.out.2.2 N1.out.1 N1.out.2.2 (by have := HT.out.2.2.2.1; rw [Tr.bs_node] at this; exact nd_lv' this (bs_ins_nodup N1.out.2.1 (by grind)) (fun i => bs_ins N1.out.2.1 i)) (by have h1 := n_ins N1.out.2.1; have := HT.out.2.2.2.2; simp only [Tr.n, Tr.toL, List.length_append, List.length_cons] at this h1 ⊢; omega)).mono ?_
           rintro e w2 ⟨t2, rfl, hp⟩
           have N2 := hid hp
           clear hp))
      rw [← HP.out]
      obtain ⟨a1, a2, a3⟩ := N2.out
      refine ⟨t2, rfl, a1, ?_, a3⟩
      have ex := N1.out.2.1
      have hk := HH.out
      rw [a2]
      rw [ex, show (Tr.node b k v l r).toL = l.toL ++ (b, k, v) :: r.toL from rfl, ins_high (c := (b, k, v)) HT.out.2.2.1 hk]
    · skip
      have hk' : Op.bytesLess key.toList k.toList = true := hk
      go_enter Try.func39, Try.ntmps39
      go_wp2
      go_quiet (fail)
      have H2 := hid (show Nd (w.drewN nq) m key u nilp nilp (.int .i64 1) ∧ (Tr.node b k v l r).At 93 (w.drewN nq) ∧ Kept (fun _ => False) w (w.drewN nq) from ⟨HT.out.1, Tr.At.heap (w := w) (w' := w.drewN nq) rfl HT.out.2.1, (Kept.refl _ w).drewN⟩)
      generalize w.drewN nq = W at H2 ⊢
      clear c0 d0
      have c2 := (cells5 H2.out.2.1.1).2.2.1
      have I := hid (IL.out W H2.out.1 H2.out.2.1.2.1 (List.pairwise_append.1 HT.out.2.2.1).1 (by have := HT.out.2.2.2.1; rw [Tr.bs_node] at this; grind) (by have := HT.out.2.2.2.2; simp only [Tr.n, Tr.toL, List.length_append, List.length_cons] at this ⊢; omega))
      generalize l.ptr = pp at c2 I
      have hb' : b ≠ m := by have := HT.out.2.2.2.1; rw [Tr.bs_node] at this; grind
      have HX := hid (fun (w1 : World) (t1 : Tr) (ex : t1.toL = ins (m, key, u) l.toL) (k1 : Kept (fun i => i ∈ t1.bs) W w1) => hp_kept H2.out.2.1.1 k1 (by rw [bs_ins ex]; have := HT.out.2.2.2.1; rw [Tr.bs_node] at this; grind))
      have HH := hid hk
      clear hk hb'
      go_wp2_with (first
        | (go_at_call 39
           refine I.out.mono ?_
           rintro e w1 ⟨t1, rfl, a1, ex, k1⟩
           have B0 := HX.out w1 t1 ex k1
           have f2 := (cells5 B0).2.2.1
           have ff : ∀ o, w1.frozen? ⟨b, o, none⟩ = false := fun o => free_of_block B0
           have N1 := hid (And.intro a1 (And.intro ex k1))
           clear a1 ex k1 B0)
        | (go_at_call 56
           refine (relev_low H2.out.2.1.1 H2.out.2.1.2.2 H2.out.2.2 N1.out.1 N1.out.2.2 (by have := HT.out.2.2.2.1; rw [Tr.bs_node] at this; exact nd_lv this (bs_ins_nodup N1.out.2.1 (by grind)) (fun i => bs_ins N1.out.2.1 i)) (by have h1 := n_ins N1.out.2.1; have := HT.out.2.2.2.2; simp only [Tr.n, Tr.toL, List.length_append, List.length_cons] at this h1 ⊢; omega)).mono ?_
           rintro e w2 ⟨t2, rfl, hp⟩
           have N2 := hid hp
           clear hp))
      rw [← HP.out]
      obtain ⟨a1, a2, a3⟩ := N2.out
      refine ⟨t2, rfl, a1, ?_, a3⟩
      have ex := N1.out.2.1
      have hk := HH.out
      rw [a2]
      rw [ex, show (Tr.node b k v l r).toL = l.toL ++ (b, k, v) :: r.toL from rfl, ins_low (c := (b, k, v)) hk]

end Go.Proofs.Ytkalppcekmlgbab
