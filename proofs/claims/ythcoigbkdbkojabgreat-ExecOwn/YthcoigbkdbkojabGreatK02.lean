import Derived.Test.YthcoigbkdbkojabGreatK01
set_option maxRecDepth 100000
namespace Go.Proofs.YthcoigbkdbkojabGreat.V
open Go.RowKit
structure Lv (w W : World) (b : Nat) (k : ByteArray) (v : Value) (l r : Tr) : Prop where
  nd : Nd W b k v l.ptr r.ptr (.int .i64 (1 + max (l.ht : Int) r.ht))
  l : l.At 154 W
  r : r.At 154 W
  kp : Kept (fun i => i = b) w W
theorem Lv.drewN {w W : World} {b : Nat} {k : ByteArray} {v : Value} {l r : Tr} (h : Lv w W b k v l r) (n : Nat) : Lv w (W.drewN n) b k v l r :=
  ⟨h.nd, Tr.At.heap (w := W) (w' := W.drewN n) rfl h.l, Tr.At.heap (w := W) (w' := W.drewN n) rfl h.r, h.kp.drewN⟩
theorem wrap_sub (a b : Nat) (h1 : a ≤ 1000000) (h2 : b ≤ 1000000) : IntKind.i64.wrap ((a : Int) - b) = (a : Int) - b := by rw [IntKind.wrap_i64]; omega
abbrev LvPost (b : Nat) (k : ByteArray) (v : Value) (l r : Tr) (w : World) : Ending → World → Prop := fun x w' => ∃ t' : Tr, x = .returned t'.ptr ∧ t'.At 154 w' ∧ t'.toL = l.toL ++ (b, k, v) :: r.toL ∧ Kept (fun i => i ∈ t'.bs) w w'
theorem tall_all (t : Tr) (w : World) (h : t.At 154 w) : ∀ n, Calls Tryz.prog 137 #[.pointer t.addr] (w.drewN n) fun x w' => x = .returned (.int .i64 t.ht) ∧ w' = w.drewN n := fun n => tall_any t _ (Tr.At.heap (w := w) (w' := w.drewN n) rfl h)
theorem mem_bs {t : Tr} {L : List En} {i : Nat} (e : t.toL = L) (h : i ∈ blks L) : i ∈ t.bs := by unfold Tr.bs; rw [e]; exact h
theorem step2L {w W3 w3 : World} {b lb mb : Nat} {k lk mk : ByteArray} {v lv mv : Value} {ll x y r : Tr} {hh : Int} (L3 : Lv w W3 b k v (Tr.node lb lk lv ll (Tr.node mb mk mv x y)) r)
    (ND : b ≠ lb ∧ b ≠ mb ∧ lb ≠ mb ∧ (∀ i, i ∈ ll.bs ∨ i ∈ x.bs ∨ i ∈ y.bs ∨ i ∈ r.bs → i ≠ b ∧ i ≠ lb ∧ i ≠ mb)) (HS : ll.ht ≤ 800000 ∧ x.ht ≤ 800000 ∧ y.ht ≤ 800000 ∧ r.ht ≤ 800000)
    (n1 : (Tr.node mb mk mv (Tr.node lb lk lv ll x) y).At 154 w3) (k1 : Kept (fun i => i = lb ∨ i = mb) W3 w3) (B0 : Nd w3 b k v (.pointer (some ⟨lb, 0, none⟩)) r.ptr (.int .i64 hh)) :
    Calls Tryz.prog 139 #[.pointer (some ⟨b, 0, none⟩)] (w3.setCell ⟨b, 2, none⟩ (.pointer (some ⟨mb, 0, none⟩))) fun e w' => e = .returned (.pointer (some ⟨mb, 0, none⟩)) ∧ LvPost b k v (Tr.node lb lk lv ll (Tr.node mb mk mv x y)) r w (.returned (.pointer (some ⟨mb, 0, none⟩))) w' := by
  obtain ⟨W4, hW4⟩ : ∃ W4, W4 = w3.setCell ⟨b, 2, none⟩ (.pointer (some ⟨mb, 0, none⟩)) := ⟨_, rfl⟩
  rw [← hW4]
  obtain ⟨d1, d2, d3, dd⟩ := ND
  have K4 : Kept (fun i => i = b) w3 W4 := by rw [hW4]; exact (Kept.refl (fun i => i = b) w3).setCell (p := ⟨b, 2, none⟩) (fun _ => rfl) _
  have B4 : Nd W4 b k v (.pointer (some ⟨mb, 0, none⟩)) r.ptr (.int .i64 hh) := by rw [hW4]; exact set_block (i := 2) B0 _
  have n4 : (Tr.node mb mk mv (Tr.node lb lk lv ll x) y).At 154 W4 := n1.kept K4 (fun i hi e => by
    simp only [Tr.bs_node, List.mem_append, List.mem_cons] at hi
    subst e
    rcases hi with ((hi | hi | hi) | hi | hi)
    · exact (dd i (by simp [hi])).1 rfl
    · omega
    · exact (dd i (by simp [hi])).1 rfl
    · omega
    · exact (dd i (by simp [hi])).1 rfl)
  have r4 : r.At 154 W4 := (L3.r.kept k1 (fun i hi e => by have := dd i (by simp [hi]); omega)).kept K4 (fun i hi e => (dd i (by simp [hi])).1 e)
  refine (lowUp_any b mb k mk v mv hh _ (Tr.node lb lk lv ll x) y r W4 B4 n4.1 n4.2.1 n4.2.2 r4 d2 (fun i hi => ?_) ?_ (by omega) (by omega)).mono ?_
  · simp only [Tr.bs_node, List.mem_append, List.mem_cons] at hi
    rcases hi with (hi | hi | hi) | hi | hi
    · have := dd i (by simp [hi]); omega
    · omega
    · have := dd i (by simp [hi]); omega
    · have := dd i (by simp [hi]); omega
    · have := dd i (by simp [hi]); omega
  · simp only [Tr.ht]; omega
  · rintro e w5 ⟨rfl, n5, k5⟩
    refine ⟨rfl, (Tr.node mb mk mv (Tr.node lb lk lv ll x) (Tr.node b k v y r)), rfl, n5, by simp [Tr.toL], ?_⟩
    have m1 : ∀ i, i = b ∨ i = lb ∨ i = mb → i ∈ (Tr.node mb mk mv (Tr.node lb lk lv ll x) (Tr.node b k v y r)).bs := by intro i hi; simp only [Tr.bs_node, List.mem_append, List.mem_cons]; grind
    exact (((L3.kp.mono (fun i _ e => m1 i (.inl e))).trans k1 (fun i _ e => m1 i (.inr e))).trans K4 (fun i _ e => m1 i (.inl e))).trans k5 (fun i _ e => m1 i (by rcases e with e | e <;> simp [e]))
theorem step2R {w W3 w3 : World} {b lb mb : Nat} {k lk mk : ByteArray} {v lv mv : Value} {ll x y r : Tr} {hh : Int} (L3 : Lv w W3 b k v r (Tr.node lb lk lv (Tr.node mb mk mv y x) ll))
    (ND : b ≠ lb ∧ b ≠ mb ∧ lb ≠ mb ∧ (∀ i, i ∈ ll.bs ∨ i ∈ x.bs ∨ i ∈ y.bs ∨ i ∈ r.bs → i ≠ b ∧ i ≠ lb ∧ i ≠ mb)) (HS : ll.ht ≤ 800000 ∧ x.ht ≤ 800000 ∧ y.ht ≤ 800000 ∧ r.ht ≤ 800000)
    (n1 : (Tr.node mb mk mv y (Tr.node lb lk lv x ll)).At 154 w3) (k1 : Kept (fun i => i = lb ∨ i = mb) W3 w3) (B0 : Nd w3 b k v r.ptr (.pointer (some ⟨lb, 0, none⟩)) (.int .i64 hh)) :
    Calls Tryz.prog 138 #[.pointer (some ⟨b, 0, none⟩)] (w3.setCell ⟨b, 3, none⟩ (.pointer (some ⟨mb, 0, none⟩))) fun e w' => e = .returned (.pointer (some ⟨mb, 0, none⟩)) ∧ LvPost b k v r (Tr.node lb lk lv (Tr.node mb mk mv y x) ll) w (.returned (.pointer (some ⟨mb, 0, none⟩))) w' := by
  obtain ⟨W4, hW4⟩ : ∃ W4, W4 = w3.setCell ⟨b, 3, none⟩ (.pointer (some ⟨mb, 0, none⟩)) := ⟨_, rfl⟩
  rw [← hW4]
  obtain ⟨d1, d2, d3, dd⟩ := ND
  have K4 : Kept (fun i => i = b) w3 W4 := by rw [hW4]; exact (Kept.refl (fun i => i = b) w3).setCell (p := ⟨b, 3, none⟩) (fun _ => rfl) _
  have B4 : Nd W4 b k v r.ptr (.pointer (some ⟨mb, 0, none⟩)) (.int .i64 hh) := by rw [hW4]; exact set_block (i := 3) B0 _
  have n4 : (Tr.node mb mk mv y (Tr.node lb lk lv x ll)).At 154 W4 := n1.kept K4 (fun i hi e => by
    simp only [Tr.bs_node, List.mem_append, List.mem_cons] at hi
    subst e
    rcases hi with (hi | hi | hi | hi | hi)
    · exact (dd i (by simp [hi])).1 rfl
    · omega
    · exact (dd i (by simp [hi])).1 rfl
    · omega
    · exact (dd i (by simp [hi])).1 rfl)
  have r4 : r.At 154 W4 := (L3.l.kept k1 (fun i hi e => by have := dd i (by simp [hi]); omega)).kept K4 (fun i hi e => (dd i (by simp [hi])).1 e)
  refine (highUp_any b mb k mk v mv hh _ (Tr.node lb lk lv x ll) y r W4 B4 n4.1 n4.2.2 n4.2.1 r4 d2 (fun i hi => ?_) ?_ (by omega) (by omega)).mono ?_
  · simp only [Tr.bs_node, List.mem_append, List.mem_cons] at hi
    rcases hi with (hi | hi | hi) | hi | hi
    · have := dd i (by simp [hi]); omega
    · omega
    · have := dd i (by simp [hi]); omega
    · have := dd i (by simp [hi]); omega
    · have := dd i (by simp [hi]); omega
  · simp only [Tr.ht]; omega
  · rintro e w5 ⟨rfl, n5, k5⟩
    refine ⟨rfl, (Tr.node mb mk mv (Tr.node b k v r y) (Tr.node lb lk lv x ll)), rfl, n5, by simp [Tr.toL], ?_⟩
    have m1 : ∀ i, i = b ∨ i = lb ∨ i = mb → i ∈ (Tr.node mb mk mv (Tr.node b k v r y) (Tr.node lb lk lv x ll)).bs := by intro i hi; simp only [Tr.bs_node, List.mem_append, List.mem_cons]; grind
    exact (((L3.kp.mono (fun i _ e => m1 i (.inl e))).trans k1 (fun i _ e => m1 i (.inr e))).trans K4 (fun i _ e => m1 i (.inl e))).trans k5 (fun i _ e => m1 i (by rcases e with e | e <;> simp [e]))
set_option maxHeartbeats 2000000 in
theorem levelled_any (b : Nat) (k : ByteArray) (v : Value) (h0 : Int) (l r : Tr) (w : World) (hb : Nd w b k v l.ptr r.ptr (.int .i64 h0)) (hl : l.At 154 w) (hr : r.At 154 w) (hn : (b :: (l.bs ++ r.bs)).Nodup) (nn : l.n + r.n ≤ 800000) :
    Calls Tryz.prog 111 #[.pointer (some ⟨b, 0, none⟩)] w (LvPost b k v l r w) := by
  have g1 := l.ht_le
  have g2 := r.ht_le
  have nb : b ∉ l.bs ∧ b ∉ r.bs := by
    have := (List.nodup_cons.1 hn).1
    simp only [List.mem_append, not_or] at this
    exact this
  have M1 := hid (measure_any b k v h0 l r w hb hl hr (by omega) (by omega))
  have LV := hid (show ∀ w1, Nd w1 b k v l.ptr r.ptr (.int .i64 (1 + max (l.ht : Int) r.ht)) → Kept (fun i => i = b) w w1 → Lv w w1 b k v l r from fun w1 a1 a2 => ⟨a1, hl.kept a2 (fun i hi e => nb.1 (e ▸ hi)), hr.kept a2 (fun i hi e => nb.2 (e ▸ hi)), a2⟩)
  have HN := hid hn
  have HG := hid (And.intro nn (And.intro g1 g2))
  have hw := wrap_sub l.ht r.ht (by omega) (by omega)
  clear hb hl hr hn nn g1 g2 nb
  generalize hP : LvPost b k v l r w = P
  have HP := hid hP
  clear hP
  obtain ⟨ml, hml⟩ : ∃ ml, l.ht = ml := ⟨_, rfl⟩
  obtain ⟨mr, hmr⟩ : ∃ mr, r.ht = mr := ⟨_, rfl⟩
  obtain ⟨pl, hpl⟩ : ∃ pl, l.addr = pl := ⟨_, rfl⟩
  obtain ⟨pr, hpr⟩ : ∃ pr, r.addr = pr := ⟨_, rfl⟩
  rw [hml, hmr] at hw
  have HE := hid (And.intro hml (And.intro hmr (And.intro hpl hpr)))
  clear hml hmr hpl hpr
  go_enter Tryz.func111, Tryz.ntmps111
  go_wp2_with (
    go_at_call 136
    refine M1.out.mono ?_
    rintro e w1 ⟨rfl, n1, k1⟩
    have L1 := hid (LV.out w1 n1 k1)
    have c2 : w1.cell? ⟨b, 2, none⟩ = some (.pointer pl) := HE.out.2.2.1 ▸ (cells5 n1).2.2.1
    have c3 : w1.cell? ⟨b, 3, none⟩ = some (.pointer pr) := HE.out.2.2.2 ▸ (cells5 n1).2.2.2.1
    have T1 := hid (show ∀ n, Calls Tryz.prog 137 #[.pointer pl] (w1.drewN n) fun x w' => x = .returned (.int .i64 ml) ∧ w' = w1.drewN n from HE.out.1 ▸ HE.out.2.2.1 ▸ tall_all l w1 L1.out.l)
    have T2 := hid (show ∀ n, Calls Tryz.prog 137 #[.pointer pr] (w1.drewN n) fun x w' => x = .returned (.int .i64 mr) ∧ w' = w1.drewN n from HE.out.2.1 ▸ HE.out.2.2.2 ▸ tall_all r w1 L1.out.r)
    clear n1 k1 M1)
  go_quiet ((first
    | (go_at_call 137; with_reducible show Calls _ _ #[.pointer pl] _ _; exact Calls.quiet_of_same (T1.out _))
    | (go_at_call 137; exact Calls.quiet_of_same (T2.out _))))
  have L2 := hid (L1.out.drewN nq)
  generalize w1.drewN nq = W at L2 ⊢
  clear c2 c3 T1 T2 L1 LV
  have c2 : W.cell? ⟨b, 2, none⟩ = some (.pointer pl) := HE.out.2.2.1 ▸ (cells5 L2.out.nd).2.2.1
  have c3 : W.cell? ⟨b, 3, none⟩ = some (.pointer pr) := HE.out.2.2.2 ▸ (cells5 L2.out.nd).2.2.2.1
  rcases (show ml = mr + 2 ∨ mr = ml + 2 ∨ (ml ≠ mr + 2 ∧ mr ≠ ml + 2) by omega) with hA | hA | hA
  · have hT : ((ml : Int) - mr == 2) = true := by rw [beq_iff_eq]; omega
    have HA := hid hA
    clear hA
    cases l with
    | nil => exact absurd HE.out.1 (by have := HA.out; simp only [Tr.ht]; omega)
    | node lb lk lv ll lr =>
      have e : pl = some ⟨lb, 0, none⟩ := HE.out.2.2.1.symm
      subst e
      obtain ⟨-, -, d2, d3, -⟩ := cells5 L2.out.l.1
      obtain ⟨mll, hmll⟩ : ∃ m, ll.ht = m := ⟨_, rfl⟩
      obtain ⟨mlr, hmlr⟩ : ∃ m, lr.ht = m := ⟨_, rfl⟩
      obtain ⟨pll, hpll⟩ : ∃ m, ll.addr = m := ⟨_, rfl⟩
      obtain ⟨plr, hplr⟩ : ∃ m, lr.addr = m := ⟨_, rfl⟩
      have T1 := hid (show ∀ n, Calls Tryz.prog 137 #[.pointer pll] (W.drewN n) fun x w' => x = .returned (.int .i64 mll) ∧ w' = W.drewN n from hmll ▸ hpll ▸ tall_all ll W L2.out.l.2.1)
      have T2 := hid (show ∀ n, Calls Tryz.prog 137 #[.pointer plr] (W.drewN n) fun x w' => x = .returned (.int .i64 mlr) ∧ w' = W.drewN n from hmlr ▸ hplr ▸ tall_all lr W L2.out.l.2.2)
      simp only [Tr.ptr, hpll, hplr] at d2 d3
      have HE2 := hid (And.intro hmll hmlr)
      clear hmll hmlr hpll hplr
      by_cases hB : mll < mlr
      · cases lr with
        | nil => exact absurd HE2.out.2 (by simp only [Tr.ht]; omega)
        | node mb mk mv x y =>
          go_wp2_with fail
          go_quiet ((first
            | (go_at_call 137; with_reducible show Calls _ _ #[.pointer pll] _ _; exact Calls.quiet_of_same (T1.out _))
            | (go_at_call 137; exact Calls.quiet_of_same (T2.out _))))
          have L3 := hid (L2.out.drewN nq)
          generalize W.drewN nq = W3 at L3 ⊢
          clear c2 c3 d2 d3 T1 T2
          have e2 : W3.cell? ⟨b, 2, none⟩ = some (.pointer (some ⟨lb, 0, none⟩)) := (cells5 L3.out.nd).2.2.1
          have ND := hid (nd_three (by simpa only [Tr.bs_node] using HN.out))
          have HS := hid (show ll.ht ≤ 800000 ∧ x.ht ≤ 800000 ∧ y.ht ≤ 800000 ∧ r.ht ≤ 800000 by
            have a0 := HG.out.1
            have a1 := ll.ht_le
            have a2 := x.ht_le
            have a3 := y.ht_le
            have a4 := r.ht_le
            simp only [Tr.n, Tr.toL, List.length_append, List.length_cons] at a0 a1 a2 a3 a4
            omega)
          have U := hid (highUp_any lb mb lk mk lv mv _ _ y x ll W3 L3.out.l.1 L3.out.l.2.2.1 L3.out.l.2.2.2.2 L3.out.l.2.2.2.1 L3.out.l.2.1 ND.out.2.2.1 (fun i hi => (ND.out.2.2.2 i (by grind)).2) (by have := HS.out; omega) (by have := HS.out; omega) (by have := HS.out; omega))
          have HFR := hid (fun (w3 : World) (hk : Kept (fun i => i = lb ∨ i = mb) W3 w3) => hp_kept L3.out.nd hk (by have := ND.out.1; have := ND.out.2.1; omega))
          go_wp2_with (first
            | (go_at_call 138
               refine U.out.mono ?_
               rintro e w3 ⟨rfl, n1, k1⟩
               have B0 := HFR.out w3 k1
               have f2 := (cells5 B0).2.2.1
               have ff : ∀ o, w3.frozen? ⟨b, o, none⟩ = false := fun o => free_of_block B0
               have N1 := hid (And.intro n1 (And.intro k1 B0))
               clear n1 k1 B0)
            | (go_at_call 139
               refine (step2L L3.out ND.out HS.out N1.out.1 N1.out.2.1 N1.out.2.2).mono ?_
               rintro e w5 ⟨rfl, hp⟩
               have N2 := hid hp
               clear hp))
          rw [← HP.out]
          exact N2.out
      · go_wp2_with fail
        go_quiet ((first
          | (go_at_call 137; with_reducible show Calls _ _ #[.pointer pll] _ _; exact Calls.quiet_of_same (T1.out _))
          | (go_at_call 137; exact Calls.quiet_of_same (T2.out _))))
        have L3 := hid (L2.out.drewN nq)
        generalize W.drewN nq = W3 at L3 ⊢
        clear c2 c3 d2 d3 T1 T2
        have ND := hid (nd_two (by simpa only [Tr.bs_node] using HN.out))
        have U := hid (lowUp_any b lb k lk v lv _ _ ll lr r W3 L3.out.nd L3.out.l.1 L3.out.l.2.1 L3.out.l.2.2 L3.out.r ND.out.1 (fun i hi => ND.out.2 i (by grind)) (by
            have a0 := HG.out.1
            have a1 := ll.ht_le
            simp only [Tr.n, Tr.toL, List.length_append, List.length_cons] at a0 a1
            omega) (by
            have a0 := HG.out.1
            have a1 := lr.ht_le
            simp only [Tr.n, Tr.toL, List.length_append, List.length_cons] at a0 a1
            omega) (by
            have a0 := HG.out.1
            have a1 := r.ht_le
            simp only [Tr.n, Tr.toL, List.length_append, List.length_cons] at a0 a1
            omega))
        go_wp2_with (
          go_at_call 139
          refine U.out.mono ?_
          rintro e w3 ⟨rfl, n1, k1⟩
          have N1 := hid (And.intro n1 k1)
          clear n1 k1)
        rw [← HP.out]
        refine ⟨(Tr.node lb lk lv ll (Tr.node b k v lr r)), rfl, N1.out.1, by simp [Tr.toL], ?_⟩
        have m1 : ∀ i, i = b ∨ i = lb → i ∈ (Tr.node lb lk lv ll (Tr.node b k v lr r)).bs := by intro i hi; simp only [Tr.bs_node, List.mem_append, List.mem_cons]; grind
        exact (L3.out.kp.mono (fun i _ e => m1 i (.inl e))).trans N1.out.2 (fun i _ e => m1 i e)
  · have hT : ((ml : Int) - mr == 2) = false := by rw [beq_eq_false_iff_ne]; omega
    have hT2 : ((ml : Int) - mr == -2) = true := by rw [beq_iff_eq]; omega
    have HA := hid hA
    clear hA
    cases r with
    | nil => exact absurd HE.out.2.1 (by have := HA.out; simp only [Tr.ht]; omega)
    | node lb lk lv lr ll =>
      have e : pr = some ⟨lb, 0, none⟩ := HE.out.2.2.2.symm
      subst e
      obtain ⟨-, -, d2, d3, -⟩ := cells5 L2.out.r.1
      obtain ⟨mll, hmll⟩ : ∃ m, ll.ht = m := ⟨_, rfl⟩
      obtain ⟨mlr, hmlr⟩ : ∃ m, lr.ht = m := ⟨_, rfl⟩
      obtain ⟨pll, hpll⟩ : ∃ m, ll.addr = m := ⟨_, rfl⟩
      obtain ⟨plr, hplr⟩ : ∃ m, lr.addr = m := ⟨_, rfl⟩
      have T1 := hid (show ∀ n, Calls Tryz.prog 137 #[.pointer pll] (W.drewN n) fun x w' => x = .returned (.int .i64 mll) ∧ w' = W.drewN n from hmll ▸ hpll ▸ tall_all ll W L2.out.r.2.2)
      have T2 := hid (show ∀ n, Calls Tryz.prog 137 #[.pointer plr] (W.drewN n) fun x w' => x = .returned (.int .i64 mlr) ∧ w' = W.drewN n from hmlr ▸ hplr ▸ tall_all lr W L2.out.r.2.1)
      simp only [Tr.ptr, hpll, hplr] at d2 d3
      have HE2 := hid (And.intro hmll hmlr)
      clear hmll hmlr hpll hplr
      by_cases hB : mll < mlr
      · cases lr with
        | nil => exact absurd HE2.out.2 (by simp only [Tr.ht]; omega)
        | node mb mk mv y x =>
          go_wp2_with fail
          go_quiet ((first
            | (go_at_call 137; with_reducible show Calls _ _ #[.pointer pll] _ _; exact Calls.quiet_of_same (T1.out _))
            | (go_at_call 137; exact Calls.quiet_of_same (T2.out _))))
          have L3 := hid (L2.out.drewN nq)
          generalize W.drewN nq = W3 at L3 ⊢
          clear c2 c3 d2 d3 T1 T2
          have e2 : W3.cell? ⟨b, 3, none⟩ = some (.pointer (some ⟨lb, 0, none⟩)) := (cells5 L3.out.nd).2.2.2.1
          have ND := hid (nd_three' (by simpa only [Tr.bs_node] using HN.out))
          have HS := hid (show ll.ht ≤ 800000 ∧ x.ht ≤ 800000 ∧ y.ht ≤ 800000 ∧ l.ht ≤ 800000 by
            have a0 := HG.out.1
            have a1 := ll.ht_le
            have a2 := x.ht_le
            have a3 := y.ht_le
            have a4 := l.ht_le
            simp only [Tr.n, Tr.toL, List.length_append, List.length_cons] at a0 a1 a2 a3 a4
            omega)
          have U := hid (lowUp_any lb mb lk mk lv mv _ _ y x ll W3 L3.out.r.1 L3.out.r.2.1.1 L3.out.r.2.1.2.1 L3.out.r.2.1.2.2 L3.out.r.2.2 ND.out.2.2.1 (fun i hi => (ND.out.2.2.2 i (by grind)).2) (by have := HS.out; omega) (by have := HS.out; omega) (by have := HS.out; omega))
          have HFR := hid (fun (w3 : World) (hk : Kept (fun i => i = lb ∨ i = mb) W3 w3) => hp_kept L3.out.nd hk (by have := ND.out.1; have := ND.out.2.1; omega))
          go_wp2_with (first
            | (go_at_call 139
               refine U.out.mono ?_
               rintro e w3 ⟨rfl, n1, k1⟩
               have B0 := HFR.out w3 k1
               have f2 := (cells5 B0).2.2.2.1
               have ff : ∀ o, w3.frozen? ⟨b, o, none⟩ = false := fun o => free_of_block B0
               have N1 := hid (And.intro n1 (And.intro k1 B0))
               clear n1 k1 B0)
            | (go_at_call 138
               refine (step2R L3.out ND.out HS.out N1.out.1 N1.out.2.1 N1.out.2.2).mono ?_
               rintro e w5 ⟨rfl, hp⟩
               have N2 := hid hp
               clear hp))
          rw [← HP.out]
          exact N2.out
      · go_wp2_with fail
        go_quiet ((first
          | (go_at_call 137; with_reducible show Calls _ _ #[.pointer pll] _ _; exact Calls.quiet_of_same (T1.out _))
          | (go_at_call 137; exact Calls.quiet_of_same (T2.out _))))
        have L3 := hid (L2.out.drewN nq)
        generalize W.drewN nq = W3 at L3 ⊢
        clear c2 c3 d2 d3 T1 T2
        have ND := hid (nd_two' (by simpa only [Tr.bs_node] using HN.out))
        have U := hid (highUp_any b lb k lk v lv _ _ ll lr l W3 L3.out.nd L3.out.r.1 L3.out.r.2.2 L3.out.r.2.1 L3.out.l ND.out.1 (fun i hi => ND.out.2 i (by grind)) (by
            have a0 := HG.out.1
            have a1 := ll.ht_le
            simp only [Tr.n, Tr.toL, List.length_append, List.length_cons] at a0 a1
            omega) (by
            have a0 := HG.out.1
            have a1 := lr.ht_le
            simp only [Tr.n, Tr.toL, List.length_append, List.length_cons] at a0 a1
            omega) (by
            have a0 := HG.out.1
            have a1 := l.ht_le
            simp only [Tr.n, Tr.toL, List.length_append, List.length_cons] at a0 a1
            omega))
        go_wp2_with (
          go_at_call 138
          refine U.out.mono ?_
          rintro e w3 ⟨rfl, n1, k1⟩
          have N1 := hid (And.intro n1 k1)
          clear n1 k1)
        rw [← HP.out]
        refine ⟨(Tr.node lb lk lv (Tr.node b k v l lr) ll), rfl, N1.out.1, by simp [Tr.toL], ?_⟩
        have m1 : ∀ i, i = b ∨ i = lb → i ∈ (Tr.node lb lk lv (Tr.node b k v l lr) ll).bs := by intro i hi; simp only [Tr.bs_node, List.mem_append, List.mem_cons]; grind
        exact (L3.out.kp.mono (fun i _ e => m1 i (.inl e))).trans N1.out.2 (fun i _ e => m1 i e)
  · have hT : ((ml : Int) - mr == 2) = false := by rw [beq_eq_false_iff_ne]; omega
    have hT2 : ((ml : Int) - mr == -2) = false := by rw [beq_eq_false_iff_ne]; omega
    clear hA
    go_wp2_with fail
    rw [← HP.out]
    refine ⟨Tr.node b k v l r, rfl, ⟨L2.out.nd, L2.out.l, L2.out.r⟩, rfl, L2.out.kp.mono (fun i _ e => ?_)⟩
    rw [Tr.bs_node, e]
    simp
theorem bs_ins {t t1 : Tr} {x : En} (e : t1.toL = ins x t.toL) (i : Nat) : i ∈ t1.bs ↔ i = x.1 ∨ i ∈ t.bs := by
  unfold Tr.bs; rw [e]; exact mem_blks_ins
theorem bs_ins_nodup {t t1 : Tr} {x : En} (e : t1.toL = ins x t.toL) (h : (x.1 :: t.bs).Nodup) : t1.bs.Nodup := by
  unfold Tr.bs; rw [e]; exact (blks_ins x t.toL).nodup_iff.2 h
theorem n_ins {t t1 : Tr} {x : En} (e : t1.toL = ins x t.toL) : t1.n = t.n + 1 := by
  unfold Tr.n; rw [e, (ins_perm x t.toL).length_eq]; simp
theorem nd_lv {b m : Nat} {L L' R : List Nat} (h : (m :: (L ++ b :: R)).Nodup) (hl : L'.Nodup) (hm : ∀ i, i ∈ L' ↔ i = m ∨ i ∈ L) : (b :: (L' ++ R)).Nodup := by
  grind
theorem nd_lv' {b m : Nat} {L L' R : List Nat} (h : (m :: (L ++ b :: R)).Nodup) (hl : L'.Nodup) (hm : ∀ i, i ∈ L' ↔ i = m ∨ i ∈ R) : (b :: (L ++ L')).Nodup := by
  grind
abbrev nilp : Value := .pointer none
abbrev TPost (L : List En) (w : World) : Ending → World → Prop := fun x w' => ∃ t' : Tr, x = .returned t'.ptr ∧ t'.At 154 w' ∧ t'.toL = L ∧ Kept (fun i => i ∈ t'.bs) w w'
theorem relev_low {w W w1 : World} {b : Nat} {k : ByteArray} {v : Value} {h0 : Int} {pl : Value} {t1 r : Tr} (hB : Nd W b k v pl r.ptr (.int .i64 h0)) (hr : r.At 154 W) (k0 : Kept (fun _ => False) w W) (h1 : t1.At 154 w1) (k1 : Kept (fun i => i ∈ t1.bs) W w1)
    (hn1 : (b :: (t1.bs ++ r.bs)).Nodup) (nn : t1.n + r.n ≤ 800000) : Calls Tryz.prog 111 #[.pointer (some ⟨b, 0, none⟩)] (w1.setCell ⟨b, 2, none⟩ t1.ptr) (TPost (t1.toL ++ (b, k, v) :: r.toL) w) := by
  have q1 : b ∉ t1.bs ∧ b ∉ r.bs ∧ (∀ i ∈ r.bs, i ∉ t1.bs) := by grind
  obtain ⟨W4, hW4⟩ : ∃ W4, W4 = w1.setCell ⟨b, 2, none⟩ t1.ptr := ⟨_, rfl⟩
  rw [← hW4]
  have K4 : Kept (fun i => i = b) w1 W4 := by rw [hW4]; exact (Kept.refl (fun i => i = b) w1).setCell (p := ⟨b, 2, none⟩) (fun _ => rfl) _
  have B4 : Nd W4 b k v t1.ptr r.ptr (.int .i64 h0) := by rw [hW4]; exact set_block (i := 2) (hp_kept hB k1 q1.1) _
  have h1' : t1.At 154 W4 := h1.kept K4 (fun i hi e => q1.1 (e ▸ hi))
  have r' : r.At 154 W4 := (hr.kept k1 q1.2.2).kept K4 (fun i hi e => q1.2.1 (e ▸ hi))
  refine (levelled_any b k v h0 t1 r W4 B4 h1' r' hn1 nn).mono ?_
  rintro x w' ⟨t', rfl, a1, a2, a3⟩
  refine ⟨t', rfl, a1, a2, ?_⟩
  have hm : ∀ i, i ∈ t1.bs ∨ i = b → i ∈ t'.bs := by
    intro i hi
    apply mem_bs a2
    simp only [Tr.bs] at hi
    simp only [blks_append, blks_cons, List.mem_append, List.mem_cons]
    grind
  exact (((k0.mono (fun _ _ h => h.elim)).trans k1 (fun i _ e => hm i (.inl e))).trans K4 (fun i _ e => hm i (.inr e))).trans a3 (fun i _ e => e)
theorem relev_high {w W w1 : World} {b : Nat} {k : ByteArray} {v : Value} {h0 : Int} {pl : Value} {t1 r : Tr} (hB : Nd W b k v r.ptr pl (.int .i64 h0)) (hr : r.At 154 W) (k0 : Kept (fun _ => False) w W) (h1 : t1.At 154 w1) (k1 : Kept (fun i => i ∈ t1.bs) W w1)
    (hn1 : (b :: (r.bs ++ t1.bs)).Nodup) (nn : r.n + t1.n ≤ 800000) : Calls Tryz.prog 111 #[.pointer (some ⟨b, 0, none⟩)] (w1.setCell ⟨b, 3, none⟩ t1.ptr) (TPost (r.toL ++ (b, k, v) :: t1.toL) w) := by
  have q1 : b ∉ t1.bs ∧ b ∉ r.bs ∧ (∀ i ∈ r.bs, i ∉ t1.bs) := by grind
  obtain ⟨W4, hW4⟩ : ∃ W4, W4 = w1.setCell ⟨b, 3, none⟩ t1.ptr := ⟨_, rfl⟩
  rw [← hW4]
  have K4 : Kept (fun i => i = b) w1 W4 := by rw [hW4]; exact (Kept.refl (fun i => i = b) w1).setCell (p := ⟨b, 3, none⟩) (fun _ => rfl) _
  have B4 : Nd W4 b k v r.ptr t1.ptr (.int .i64 h0) := by rw [hW4]; exact set_block (i := 3) (hp_kept hB k1 q1.1) _
  have h1' : t1.At 154 W4 := h1.kept K4 (fun i hi e => q1.1 (e ▸ hi))
  have r' : r.At 154 W4 := (hr.kept k1 q1.2.2).kept K4 (fun i hi e => q1.2.1 (e ▸ hi))
  refine (levelled_any b k v h0 r t1 W4 B4 r' h1' hn1 nn).mono ?_
  rintro x w' ⟨t', rfl, a1, a2, a3⟩
  refine ⟨t', rfl, a1, a2, ?_⟩
  have hm : ∀ i, i ∈ t1.bs ∨ i = b → i ∈ t'.bs := by
    intro i hi
    apply mem_bs a2
    simp only [Tr.bs] at hi
    simp only [blks_append, blks_cons, List.mem_append, List.mem_cons]
    grind
  exact (((k0.mono (fun _ _ h => h.elim)).trans k1 (fun i _ e => hm i (.inl e))).trans K4 (fun i _ e => hm i (.inr e))).trans a3 (fun i _ e => e)
set_option maxHeartbeats 2000000 in
theorem with_any (m : Nat) (key : ByteArray) (u : Value) : ∀ (t : Tr) (w : World), Nd w m key u nilp nilp (.int .i64 1) → t.At 154 w → Rises t.toL → (m :: t.bs).Nodup → t.n ≤ 700000 →
    Calls Tryz.prog 84 #[t.ptr, .pointer (some ⟨m, 0, none⟩)] w (TPost (ins (m, key, u) t.toL) w) := by
  intro t
  induction t with
  | nil =>
    intro w hm _ _ _ _
    have HM := hid hm
    clear hm
    show Calls Tryz.prog 84 #[.pointer none, .pointer (some ⟨m, 0, none⟩)] w _
    go_enter Tryz.func84, Tryz.ntmps84
    go_wp2
    go_ret
    exact ⟨Tr.node m key u .nil .nil, rfl, ⟨HM.out, trivial, trivial⟩, rfl, (Kept.refl (fun _ => False) w).mono (fun _ _ h => h.elim)⟩
  | node b k v l r ihl ihr =>
    intro w hm ht hs hn nn
    have c0 := (cells5 ht.1).1
    have d0 := (cells5 hm).1
    have HT := hid (And.intro hm (And.intro ht (And.intro hs (And.intro hn nn))))
    have IL := hid ihl
    have IR := hid ihr
    clear hm ht hs hn nn ihl ihr
    show Calls Tryz.prog 84 #[.pointer (some ⟨b, 0, none⟩), .pointer (some ⟨m, 0, none⟩)] w _
    generalize hP : TPost (ins (m, key, u) (Tr.node b k v l r).toL) w = P
    have HP := hid hP
    clear hP
    cases hk : kl key k
    · skip
      have hk' : Op.bytesLess key.toList k.toList = false := hk
      go_enter Tryz.func84, Tryz.ntmps84
      go_wp2
      go_quiet (fail)
      have H2 := hid (show Nd (w.drewN nq) m key u nilp nilp (.int .i64 1) ∧ (Tr.node b k v l r).At 154 (w.drewN nq) ∧ Kept (fun _ => False) w (w.drewN nq) from ⟨HT.out.1, Tr.At.heap (w := w) (w' := w.drewN nq) rfl HT.out.2.1, (Kept.refl _ w).drewN⟩)
      generalize w.drewN nq = W at H2 ⊢
      clear c0 d0
      have c2 := (cells5 H2.out.2.1.1).2.2.2.1
      have I := hid (IR.out W H2.out.1 H2.out.2.1.2.2 (List.pairwise_cons.1 (List.pairwise_append.1 HT.out.2.2.1).2.1).2 (by have := HT.out.2.2.2.1; rw [Tr.bs_node] at this; grind) (by have := HT.out.2.2.2.2; simp only [Tr.n, Tr.toL, List.length_append, List.length_cons] at this ⊢; omega))
      generalize r.ptr = pp at c2 I
      have hb' : b ≠ m := by have := HT.out.2.2.2.1; rw [Tr.bs_node] at this; grind
      have HX := hid (fun (w1 : World) (t1 : Tr) (ex : t1.toL = ins (m, key, u) r.toL) (k1 : Kept (fun i => i ∈ t1.bs) W w1) => hp_kept H2.out.2.1.1 k1 (by rw [bs_ins ex]; have := HT.out.2.2.2.1; rw [Tr.bs_node] at this; grind))
      have HH := hid hk
      clear hk hb'
      go_wp2_with (first
        | (go_at_call 84
           refine I.out.mono ?_
           rintro e w1 ⟨t1, rfl, a1, ex, k1⟩
           have B0 := HX.out w1 t1 ex k1
           have f2 := (cells5 B0).2.2.2.1
           have ff : ∀ o, w1.frozen? ⟨b, o, none⟩ = false := fun o => free_of_block B0
           have N1 := hid (And.intro a1 (And.intro ex k1))
           clear a1 ex k1 B0)
        | (go_at_call 111
           refine (relev_high H2.out.2.1.1 H2.out.2.1.2.1 H2.out.2.2 N1.out.1 N1.out.2.2 (by have := HT.out.2.2.2.1; rw [Tr.bs_node] at this; exact nd_lv' this (bs_ins_nodup N1.out.2.1 (by grind)) (fun i => bs_ins N1.out.2.1 i)) (by have h1 := n_ins N1.out.2.1; have := HT.out.2.2.2.2; simp only [Tr.n, Tr.toL, List.length_append, List.length_cons] at this h1 ⊢; omega)).mono ?_
           rintro e w2 ⟨t2, rfl, hp⟩
           have N2 := hid hp
           clear hp))
      rw [← HP.out]
      obtain ⟨a1, a2, a3⟩ := N2.out
      refine ⟨t2, rfl, a1, ?_, a3⟩
      have ex := N1.out.2.1
      have hk := HH.out
      rw [a2]
      rw [ex, show (Tr.node b k v l r).toL = l.toL ++ (b, k, v) :: r.toL from rfl, ins_high (c := (b, k, v)) HT.out.2.2.1 hk]
    · skip
      have hk' : Op.bytesLess key.toList k.toList = true := hk
      go_enter Tryz.func84, Tryz.ntmps84
      go_wp2
      go_quiet (fail)
      have H2 := hid (show Nd (w.drewN nq) m key u nilp nilp (.int .i64 1) ∧ (Tr.node b k v l r).At 154 (w.drewN nq) ∧ Kept (fun _ => False) w (w.drewN nq) from ⟨HT.out.1, Tr.At.heap (w := w) (w' := w.drewN nq) rfl HT.out.2.1, (Kept.refl _ w).drewN⟩)
      generalize w.drewN nq = W at H2 ⊢
      clear c0 d0
      have c2 := (cells5 H2.out.2.1.1).2.2.1
      have I := hid (IL.out W H2.out.1 H2.out.2.1.2.1 (List.pairwise_append.1 HT.out.2.2.1).1 (by have := HT.out.2.2.2.1; rw [Tr.bs_node] at this; grind) (by have := HT.out.2.2.2.2; simp only [Tr.n, Tr.toL, List.length_append, List.length_cons] at this ⊢; omega))
      generalize l.ptr = pp at c2 I
      have hb' : b ≠ m := by have := HT.out.2.2.2.1; rw [Tr.bs_node] at this; grind
      have HX := hid (fun (w1 : World) (t1 : Tr) (ex : t1.toL = ins (m, key, u) l.toL) (k1 : Kept (fun i => i ∈ t1.bs) W w1) => hp_kept H2.out.2.1.1 k1 (by rw [bs_ins ex]; have := HT.out.2.2.2.1; rw [Tr.bs_node] at this; grind))
      have HH := hid hk
      clear hk hb'
      go_wp2_with (first
        | (go_at_call 84
           refine I.out.mono ?_
           rintro e w1 ⟨t1, rfl, a1, ex, k1⟩
           have B0 := HX.out w1 t1 ex k1
           have f2 := (cells5 B0).2.2.1
           have ff : ∀ o, w1.frozen? ⟨b, o, none⟩ = false := fun o => free_of_block B0
           have N1 := hid (And.intro a1 (And.intro ex k1))
           clear a1 ex k1 B0)
        | (go_at_call 111
           refine (relev_low H2.out.2.1.1 H2.out.2.1.2.2 H2.out.2.2 N1.out.1 N1.out.2.2 (by have := HT.out.2.2.2.1; rw [Tr.bs_node] at this; exact nd_lv this (bs_ins_nodup N1.out.2.1 (by grind)) (fun i => bs_ins N1.out.2.1 i)) (by have h1 := n_ins N1.out.2.1; have := HT.out.2.2.2.2; simp only [Tr.n, Tr.toL, List.length_append, List.length_cons] at this h1 ⊢; omega)).mono ?_
           rintro e w2 ⟨t2, rfl, hp⟩
           have N2 := hid hp
           clear hp))
      rw [← HP.out]
      obtain ⟨a1, a2, a3⟩ := N2.out
      refine ⟨t2, rfl, a1, ?_, a3⟩
      have ex := N1.out.2.1
      have hk := HH.out
      rw [a2]
      rw [ex, show (Tr.node b k v l r).toL = l.toL ++ (b, k, v) :: r.toL from rfl, ins_low (c := (b, k, v)) hk]
abbrev cmpS (a b : ByteArray) : Int := Lib.compareBytes a.data.toList b.data.toList
set_option maxHeartbeats 800000 in
theorem cmpString_any (a b : ByteArray) (w : World) : Calls Tryz.prog 182 #[.string a, .string b] w fun x w' => x = .returned (.int .i64 (cmpS a b)) ∧ w' = w := by
  go_enter Tryz.func182, Tryz.ntmps182
  go_wp2
  rw [run_callFunc_extern Tryz.func184 (by kernel_rfl) (by kernel_rfl) (by kernel_rfl) (e := Extern.BytealgCompare.compare) (by kernel_rfl), Lib.run_compareString]
  simp only [Result.andThen]
  rw [Oper.upon_value]
  go_wp2
  go_ret
  exact ⟨rfl, rfl⟩
set_option maxHeartbeats 800000 in
theorem strCompare_any (a b : ByteArray) (w : World) : Calls Tryz.prog 173 #[.string a, .string b] w fun x w' => x = .returned (.int .i64 (cmpS a b)) ∧ w' = w := by
  go_enter Tryz.func173, Tryz.ntmps173
  go_wp2_with (
      go_at_call 182
      refine (cmpString_any _ _ _).mono ?_
      rintro e w1 ⟨rfl, e1⟩
      rw [e1]
      clear e1 w1)
  go_ret
  exact ⟨rfl, rfl⟩
def hOf (w : World) (v : Value) : Nat := match v with
  | .pointer (some a) => (match w.cell? ⟨a.block, 4, none⟩ with | some (.int _ h) => h.toNat | _ => 0)
  | _ => 0
theorem hOf_at {w : World} {t : Tr} (h : t.At 154 w) : hOf w t.ptr = t.ht := by
  cases t with
  | nil => rfl
  | node b k v l r =>
    have c4 := (cells5 h.1).2.2.2.2
    simp only [hOf, Tr.ptr, Tr.addr, c4, Tr.ht]
    omega
theorem Rises.left {a b : List En} (h : Rises (a ++ b)) : Rises a := (List.pairwise_append.1 h).1
theorem Rises.right {a b : List En} (h : Rises (a ++ b)) : Rises b := (List.pairwise_append.1 h).2.1
theorem Rises.tail {c : En} {b : List En} (h : Rises (c :: b)) : Rises b := (List.pairwise_cons.1 h).2
theorem Rises.lo {a b : List En} {c : En} (h : Rises (a ++ c :: b)) : ∀ e ∈ a, kl e.2.1 c.2.1 = true := fun e he => (List.pairwise_append.1 h).2.2 e he c (by simp)
theorem Rises.hi {b : List En} {c : En} (h : Rises (c :: b)) : ∀ e ∈ b, kl c.2.1 e.2.1 = true := (List.pairwise_cons.1 h).1
theorem blks_del_sub {l : List En} {k : ByteArray} : (blks (del k l)).Sublist (blks l) := (List.filter_sublist).map _
theorem bs_of {t : Tr} {L : List En} (e : t.toL = L) : t.bs = blks L := by unfold Tr.bs; rw [e]
theorem Tr.At.mem {w : World} : ∀ {t : Tr}, t.At 154 w → ∀ b k v, (b, k, v) ∈ t.toL → ∃ p q h, Nd w b k v (.pointer p) (.pointer q) (.int .i64 h)
  | .nil, _ => by simp [Tr.toL]
  | .node b k v l r, h => by
    obtain ⟨h0, h1, h2⟩ := h
    intro b' k' v' hm
    simp only [Tr.toL, List.mem_append, List.mem_cons] at hm
    rcases hm with hm | hm | hm
    · exact h1.mem b' k' v' hm
    · simp only [Prod.mk.injEq] at hm
      obtain ⟨rfl, rfl, rfl⟩ := hm
      exact ⟨_, _, _, h0⟩
    · exact h2.mem b' k' v' hm
theorem bs_sub {t t1 : Tr} {k : ByteArray} (e : t1.toL = del k t.toL) : t1.bs.Sublist t.bs := by
  rw [bs_of e]; exact blks_del_sub
theorem HX2 {w w1 : World} {b : Nat} {k key : ByteArray} {v p q h : Value} {l r t1 : Tr} (hB : Nd w b k v p q h) (hn : (l.bs ++ b :: r.bs).Nodup) (e : t1.toL = del key l.toL) (k1 : Kept (fun i => i ∈ t1.bs) w w1) : Nd w1 b k v p q h := by
  refine hp_kept hB k1 ?_
  have h3 := (bs_sub e).subset
  grind
end Go.Proofs.YthcoigbkdbkojabGreat.V
