import Derived.Test.YtljfmbjibjoiiaaK15
namespace Go.Proofs.Ytljfmbjibjoiiaa
open Go.RowKit Go.Lib

set_option maxRecDepth 100000 in
set_option maxHeartbeats 4000000 in
theorem edges_e0 (op which v ar : Int) (m : Nat) (w : World) (a0 : 0 ≤ ar) (a1 : ar ≤ 16) (hm : (m : Int) ≤ 60) (o10 : (op == 10) = false) (o11 : (op == 11) = false) (o12 : (op == 12) = false) (o13 : (op == 13) = false) (hw : which.tmod 4 = 0) :
    Calls Try.prog 8 #[.int .i64 op, .int .i64 which, .int .i64 v, .int .i64 ar, .int .i64 m] w fun x w' => x = .returned (.bool true) ∧ Below w.heap.size w w' := by
  have hm0 : (0 : Int) ≤ (m : Int) := by omega
  obtain ⟨x, hx⟩ : ∃ x : Ins, x = ⟨op, v, 0, 0, 0, 0, 0, emp⟩ := ⟨_, rfl⟩
  have H0 := hid (egs_start w ar x)
  rw [hx] at H0
  have hk : x.k = 0 ∧ x.i = 0 ∧ x.t = emp := by rw [hx]; exact ⟨rfl, rfl, rfl⟩
  have HE := hid (plain_err x hk.1 hk.2.1 hk.2.2 ar m)
  have HC1 := hid (fun S W hW => pcheck_any p1 ar S (x :: List.replicate m stopI) W hW (by simp; omega))
  rw [edge_one x ar a0 a1 m (by omega)] at HC1
  have HC2 := hid (fun S W hW => pcheck_any p2 ar S (tellI :: x :: List.replicate m stopI) W hW (by simp; omega))
  rw [edge_two x ar a0 a1 m (by omega)] at HC2
  obtain ⟨E, hE⟩ : ∃ E, E = insErr x ar m := ⟨_, rfl⟩
  rw [← hE] at HE HC1 HC2
  dsimp only at HC1 HC2
  rw [← hx] at H0
  have HX := hid hx
  clear hx hk hE
  go_enter Try.func8, Try.ntmps8
  go_wp2_with fail
  go_loopw [14] (fun ix wr => ∃ (k : Nat) (ao : Option Addr) (cc : Nat), k ≤ m ∧ ix = .int .i64 k ∧ Hid (Egs w wr ar (.slice ao (k + 1) cc) (x :: List.replicate k stopI) (w.heap.size + 1 + 1))) (fun ix _ => m - (intOf ix).toNat)
  case atStart =>
    refine ⟨0, some ⟨w.heap.size + 1, 0, none⟩, 1, Nat.zero_le _, rfl, hid ?_⟩
    have := H0.out
    rw [HX.out] at this ⊢
    exact this
  case round =>
    clear H0
    obtain ⟨k, ao, cc, hk, rfl, hS⟩ := hrel
    obtain ⟨q0, q1, q2, qz⟩ := vfacts hS.out.r0
    have kl := lt_of hS.out.r0
    by_cases hlt : k < m
    · have hlt' : (k : Int) < (m : Int) := by omega
      go_wp2_with (at_builtin; go_loud (
        refine wpList_append_rf _ rfl _ _ 22 28 (.agg zCells) 8 72 rfl Try.underlying22 Try.info28z rfl (by decide) (w.heap.size + 1) _ (k + 1) _ rfl (hS.out.own.alloc _) _ 1 ([stopI].flatMap Ins.cells) rfl (rf_stop wr) (by omega) (by unfold maxLen; omega) (hS.out.base _) ?_
        intro ao1 c1 w1 hown hgrow hat
        have H1 := hid (hS.out.grow hown.out hgrow.out)
        obtain ⟨q0, q1, q2, qz⟩ := vfacts H1.out.1
        clear hown hgrow hat))
      go_wp2
      go_roundw
      case rel => exact ⟨k + 1, ao1, c1, by omega, by go_num, hid H1.out.2⟩
      case measure => simp [intOf]; omega
    · obtain rfl : k = m := by omega
      have hRf := hid (rf_of_owns hS.out.own (all_one _))
      rcases HE.out with hE | hE
      all_goals (
        subst hE
        go_wp2_with (first
          | (at_builtin; go_loud (
             refine wpList_append_rf _ rfl _ _ 22 28 (.agg zCells) 8 72 rfl Try.underlying22 Try.info28z rfl (by decide) wr.heap.size _ 1 _ rfl (own_tell wr) _ (k + 1) _ rfl (hRf.out.below (below1 wr _)) (by omega) (by unfold maxLen; omega) (by simp) ?_
             intro ao2 c2 w2 hown hgrow hat
             have H2 := hid (hS.out.two hown.out hgrow.out)
             obtain ⟨q0, q1, q2, qz⟩ := vfacts H2.out.1.r0
             have kl2 := lt_of H2.out.1.r0
             clear hown hgrow hat))
          | (go_at_call 10
             first
             | ((with_reducible show Calls _ _ _ (World.alloc w2 _) _)
                refine (HC1.out _ _ (H2.out.1.below (below1 w2 _)).code).mono ?_
                rintro e w3 ⟨rfl, hb3⟩
                have H3 := hid (twos H2.out hb3)
                obtain ⟨u0, u1, u2, -⟩ := vfacts H3.out.1
                clear hb3)
             | (refine (HC2.out _ _ H3.out.2.1).mono ?_
                rintro e w4 ⟨rfl, hb4⟩
                have H4 := hid (below_on H3.out.2.2 hb4)
                clear hb4))
          | (go_at_call 13
             refine (known_any _).mono ?_
             rintro e w5 ⟨rfl, hb5⟩
             have H5 := hid (below_on H4.out hb5)
             clear hb5))
        go_ret
        exact ⟨rfl, H5.out⟩)

set_option maxRecDepth 100000 in
set_option maxHeartbeats 4000000 in
theorem edges_e1 (op which v ar : Int) (m : Nat) (w : World) (a0 : 0 ≤ ar) (a1 : ar ≤ 16) (hm : (m : Int) ≤ 60) (o10 : (op == 10) = false) (o11 : (op == 11) = false) (o12 : (op == 12) = false) (o13 : (op == 13) = false) (hw : which.tmod 4 = 1) :
    Calls Try.prog 8 #[.int .i64 op, .int .i64 which, .int .i64 v, .int .i64 ar, .int .i64 m] w fun x w' => x = .returned (.bool true) ∧ Below w.heap.size w w' := by
  have hm0 : (0 : Int) ≤ (m : Int) := by omega
  obtain ⟨x, hx⟩ : ∃ x : Ins, x = ⟨op, 0, v, 0, 0, 0, 0, emp⟩ := ⟨_, rfl⟩
  have H0 := hid (egs_start w ar x)
  rw [hx] at H0
  have hk : x.k = 0 ∧ x.i = 0 ∧ x.t = emp := by rw [hx]; exact ⟨rfl, rfl, rfl⟩
  have HE := hid (plain_err x hk.1 hk.2.1 hk.2.2 ar m)
  have HC1 := hid (fun S W hW => pcheck_any p1 ar S (x :: List.replicate m stopI) W hW (by simp; omega))
  rw [edge_one x ar a0 a1 m (by omega)] at HC1
  have HC2 := hid (fun S W hW => pcheck_any p2 ar S (tellI :: x :: List.replicate m stopI) W hW (by simp; omega))
  rw [edge_two x ar a0 a1 m (by omega)] at HC2
  obtain ⟨E, hE⟩ : ∃ E, E = insErr x ar m := ⟨_, rfl⟩
  rw [← hE] at HE HC1 HC2
  dsimp only at HC1 HC2
  rw [← hx] at H0
  have HX := hid hx
  clear hx hk hE
  go_enter Try.func8, Try.ntmps8
  go_wp2_with fail
  go_loopw [14] (fun ix wr => ∃ (k : Nat) (ao : Option Addr) (cc : Nat), k ≤ m ∧ ix = .int .i64 k ∧ Hid (Egs w wr ar (.slice ao (k + 1) cc) (x :: List.replicate k stopI) (w.heap.size + 1 + 1))) (fun ix _ => m - (intOf ix).toNat)
  case atStart =>
    refine ⟨0, some ⟨w.heap.size + 1, 0, none⟩, 1, Nat.zero_le _, rfl, hid ?_⟩
    have := H0.out
    rw [HX.out] at this ⊢
    exact this
  case round =>
    clear H0
    obtain ⟨k, ao, cc, hk, rfl, hS⟩ := hrel
    obtain ⟨q0, q1, q2, qz⟩ := vfacts hS.out.r0
    have kl := lt_of hS.out.r0
    by_cases hlt : k < m
    · have hlt' : (k : Int) < (m : Int) := by omega
      go_wp2_with (at_builtin; go_loud (
        refine wpList_append_rf _ rfl _ _ 22 28 (.agg zCells) 8 72 rfl Try.underlying22 Try.info28z rfl (by decide) (w.heap.size + 1) _ (k + 1) _ rfl (hS.out.own.alloc _) _ 1 ([stopI].flatMap Ins.cells) rfl (rf_stop wr) (by omega) (by unfold maxLen; omega) (hS.out.base _) ?_
        intro ao1 c1 w1 hown hgrow hat
        have H1 := hid (hS.out.grow hown.out hgrow.out)
        obtain ⟨q0, q1, q2, qz⟩ := vfacts H1.out.1
        clear hown hgrow hat))
      go_wp2
      go_roundw
      case rel => exact ⟨k + 1, ao1, c1, by omega, by go_num, hid H1.out.2⟩
      case measure => simp [intOf]; omega
    · obtain rfl : k = m := by omega
      have hRf := hid (rf_of_owns hS.out.own (all_one _))
      rcases HE.out with hE | hE
      all_goals (
        subst hE
        go_wp2_with (first
          | (at_builtin; go_loud (
             refine wpList_append_rf _ rfl _ _ 22 28 (.agg zCells) 8 72 rfl Try.underlying22 Try.info28z rfl (by decide) wr.heap.size _ 1 _ rfl (own_tell wr) _ (k + 1) _ rfl (hRf.out.below (below1 wr _)) (by omega) (by unfold maxLen; omega) (by simp) ?_
             intro ao2 c2 w2 hown hgrow hat
             have H2 := hid (hS.out.two hown.out hgrow.out)
             obtain ⟨q0, q1, q2, qz⟩ := vfacts H2.out.1.r0
             have kl2 := lt_of H2.out.1.r0
             clear hown hgrow hat))
          | (go_at_call 10
             first
             | ((with_reducible show Calls _ _ _ (World.alloc w2 _) _)
                refine (HC1.out _ _ (H2.out.1.below (below1 w2 _)).code).mono ?_
                rintro e w3 ⟨rfl, hb3⟩
                have H3 := hid (twos H2.out hb3)
                obtain ⟨u0, u1, u2, -⟩ := vfacts H3.out.1
                clear hb3)
             | (refine (HC2.out _ _ H3.out.2.1).mono ?_
                rintro e w4 ⟨rfl, hb4⟩
                have H4 := hid (below_on H3.out.2.2 hb4)
                clear hb4))
          | (go_at_call 13
             refine (known_any _).mono ?_
             rintro e w5 ⟨rfl, hb5⟩
             have H5 := hid (below_on H4.out hb5)
             clear hb5))
        go_ret
        exact ⟨rfl, H5.out⟩)

set_option maxRecDepth 100000 in
set_option maxHeartbeats 4000000 in
theorem edges_e2 (op which v ar : Int) (m : Nat) (w : World) (a0 : 0 ≤ ar) (a1 : ar ≤ 16) (hm : (m : Int) ≤ 60) (o10 : (op == 10) = false) (o11 : (op == 11) = false) (o12 : (op == 12) = false) (o13 : (op == 13) = false) (hw : which.tmod 4 = 2) :
    Calls Try.prog 8 #[.int .i64 op, .int .i64 which, .int .i64 v, .int .i64 ar, .int .i64 m] w fun x w' => x = .returned (.bool true) ∧ Below w.heap.size w w' := by
  have hm0 : (0 : Int) ≤ (m : Int) := by omega
  obtain ⟨x, hx⟩ : ∃ x : Ins, x = ⟨op, 0, 0, v, 0, 0, 0, emp⟩ := ⟨_, rfl⟩
  have H0 := hid (egs_start w ar x)
  rw [hx] at H0
  have hk : x.k = 0 ∧ x.i = 0 ∧ x.t = emp := by rw [hx]; exact ⟨rfl, rfl, rfl⟩
  have HE := hid (plain_err x hk.1 hk.2.1 hk.2.2 ar m)
  have HC1 := hid (fun S W hW => pcheck_any p1 ar S (x :: List.replicate m stopI) W hW (by simp; omega))
  rw [edge_one x ar a0 a1 m (by omega)] at HC1
  have HC2 := hid (fun S W hW => pcheck_any p2 ar S (tellI :: x :: List.replicate m stopI) W hW (by simp; omega))
  rw [edge_two x ar a0 a1 m (by omega)] at HC2
  obtain ⟨E, hE⟩ : ∃ E, E = insErr x ar m := ⟨_, rfl⟩
  rw [← hE] at HE HC1 HC2
  dsimp only at HC1 HC2
  rw [← hx] at H0
  have HX := hid hx
  clear hx hk hE
  go_enter Try.func8, Try.ntmps8
  go_wp2_with fail
  go_loopw [14] (fun ix wr => ∃ (k : Nat) (ao : Option Addr) (cc : Nat), k ≤ m ∧ ix = .int .i64 k ∧ Hid (Egs w wr ar (.slice ao (k + 1) cc) (x :: List.replicate k stopI) (w.heap.size + 1 + 1))) (fun ix _ => m - (intOf ix).toNat)
  case atStart =>
    refine ⟨0, some ⟨w.heap.size + 1, 0, none⟩, 1, Nat.zero_le _, rfl, hid ?_⟩
    have := H0.out
    rw [HX.out] at this ⊢
    exact this
  case round =>
    clear H0
    obtain ⟨k, ao, cc, hk, rfl, hS⟩ := hrel
    obtain ⟨q0, q1, q2, qz⟩ := vfacts hS.out.r0
    have kl := lt_of hS.out.r0
    by_cases hlt : k < m
    · have hlt' : (k : Int) < (m : Int) := by omega
      go_wp2_with (at_builtin; go_loud (
        refine wpList_append_rf _ rfl _ _ 22 28 (.agg zCells) 8 72 rfl Try.underlying22 Try.info28z rfl (by decide) (w.heap.size + 1) _ (k + 1) _ rfl (hS.out.own.alloc _) _ 1 ([stopI].flatMap Ins.cells) rfl (rf_stop wr) (by omega) (by unfold maxLen; omega) (hS.out.base _) ?_
        intro ao1 c1 w1 hown hgrow hat
        have H1 := hid (hS.out.grow hown.out hgrow.out)
        obtain ⟨q0, q1, q2, qz⟩ := vfacts H1.out.1
        clear hown hgrow hat))
      go_wp2
      go_roundw
      case rel => exact ⟨k + 1, ao1, c1, by omega, by go_num, hid H1.out.2⟩
      case measure => simp [intOf]; omega
    · obtain rfl : k = m := by omega
      have hRf := hid (rf_of_owns hS.out.own (all_one _))
      rcases HE.out with hE | hE
      all_goals (
        subst hE
        go_wp2_with (first
          | (at_builtin; go_loud (
             refine wpList_append_rf _ rfl _ _ 22 28 (.agg zCells) 8 72 rfl Try.underlying22 Try.info28z rfl (by decide) wr.heap.size _ 1 _ rfl (own_tell wr) _ (k + 1) _ rfl (hRf.out.below (below1 wr _)) (by omega) (by unfold maxLen; omega) (by simp) ?_
             intro ao2 c2 w2 hown hgrow hat
             have H2 := hid (hS.out.two hown.out hgrow.out)
             obtain ⟨q0, q1, q2, qz⟩ := vfacts H2.out.1.r0
             have kl2 := lt_of H2.out.1.r0
             clear hown hgrow hat))
          | (go_at_call 10
             first
             | ((with_reducible show Calls _ _ _ (World.alloc w2 _) _)
                refine (HC1.out _ _ (H2.out.1.below (below1 w2 _)).code).mono ?_
                rintro e w3 ⟨rfl, hb3⟩
                have H3 := hid (twos H2.out hb3)
                obtain ⟨u0, u1, u2, -⟩ := vfacts H3.out.1
                clear hb3)
             | (refine (HC2.out _ _ H3.out.2.1).mono ?_
                rintro e w4 ⟨rfl, hb4⟩
                have H4 := hid (below_on H3.out.2.2 hb4)
                clear hb4))
          | (go_at_call 13
             refine (known_any _).mono ?_
             rintro e w5 ⟨rfl, hb5⟩
             have H5 := hid (below_on H4.out hb5)
             clear hb5))
        go_ret
        exact ⟨rfl, H5.out⟩)

set_option maxRecDepth 100000 in
set_option maxHeartbeats 4000000 in
theorem edges_e3 (op which v ar : Int) (m : Nat) (w : World) (a0 : 0 ≤ ar) (a1 : ar ≤ 16) (hm : (m : Int) ≤ 60) (o10 : (op == 10) = false) (o11 : (op == 11) = false) (o12 : (op == 12) = false) (o13 : (op == 13) = false) (h0 : (which.tmod 4 == 0) = false) (h1 : (which.tmod 4 == 1) = false) (h2 : (which.tmod 4 == 2) = false) :
    Calls Try.prog 8 #[.int .i64 op, .int .i64 which, .int .i64 v, .int .i64 ar, .int .i64 m] w fun x w' => x = .returned (.bool true) ∧ Below w.heap.size w w' := by
  have hm0 : (0 : Int) ≤ (m : Int) := by omega
  obtain ⟨x, hx⟩ : ∃ x : Ins, x = ⟨op, 0, 0, 0, v, 0, 0, emp⟩ := ⟨_, rfl⟩
  have H0 := hid (egs_start w ar x)
  rw [hx] at H0
  have hk : x.k = 0 ∧ x.i = 0 ∧ x.t = emp := by rw [hx]; exact ⟨rfl, rfl, rfl⟩
  have HE := hid (plain_err x hk.1 hk.2.1 hk.2.2 ar m)
  have HC1 := hid (fun S W hW => pcheck_any p1 ar S (x :: List.replicate m stopI) W hW (by simp; omega))
  rw [edge_one x ar a0 a1 m (by omega)] at HC1
  have HC2 := hid (fun S W hW => pcheck_any p2 ar S (tellI :: x :: List.replicate m stopI) W hW (by simp; omega))
  rw [edge_two x ar a0 a1 m (by omega)] at HC2
  obtain ⟨E, hE⟩ : ∃ E, E = insErr x ar m := ⟨_, rfl⟩
  rw [← hE] at HE HC1 HC2
  dsimp only at HC1 HC2
  rw [← hx] at H0
  have HX := hid hx
  clear hx hk hE
  go_enter Try.func8, Try.ntmps8
  go_wp2_with fail
  go_loopw [14] (fun ix wr => ∃ (k : Nat) (ao : Option Addr) (cc : Nat), k ≤ m ∧ ix = .int .i64 k ∧ Hid (Egs w wr ar (.slice ao (k + 1) cc) (x :: List.replicate k stopI) (w.heap.size + 1 + 1))) (fun ix _ => m - (intOf ix).toNat)
  case atStart =>
    refine ⟨0, some ⟨w.heap.size + 1, 0, none⟩, 1, Nat.zero_le _, rfl, hid ?_⟩
    have := H0.out
    rw [HX.out] at this ⊢
    exact this
  case round =>
    clear H0
    obtain ⟨k, ao, cc, hk, rfl, hS⟩ := hrel
    obtain ⟨q0, q1, q2, qz⟩ := vfacts hS.out.r0
    have kl := lt_of hS.out.r0
    by_cases hlt : k < m
    · have hlt' : (k : Int) < (m : Int) := by omega
      go_wp2_with (at_builtin; go_loud (
        refine wpList_append_rf _ rfl _ _ 22 28 (.agg zCells) 8 72 rfl Try.underlying22 Try.info28z rfl (by decide) (w.heap.size + 1) _ (k + 1) _ rfl (hS.out.own.alloc _) _ 1 ([stopI].flatMap Ins.cells) rfl (rf_stop wr) (by omega) (by unfold maxLen; omega) (hS.out.base _) ?_
        intro ao1 c1 w1 hown hgrow hat
        have H1 := hid (hS.out.grow hown.out hgrow.out)
        obtain ⟨q0, q1, q2, qz⟩ := vfacts H1.out.1
        clear hown hgrow hat))
      go_wp2
      go_roundw
      case rel => exact ⟨k + 1, ao1, c1, by omega, by go_num, hid H1.out.2⟩
      case measure => simp [intOf]; omega
    · obtain rfl : k = m := by omega
      have hRf := hid (rf_of_owns hS.out.own (all_one _))
      rcases HE.out with hE | hE
      all_goals (
        subst hE
        go_wp2_with (first
          | (at_builtin; go_loud (
             refine wpList_append_rf _ rfl _ _ 22 28 (.agg zCells) 8 72 rfl Try.underlying22 Try.info28z rfl (by decide) wr.heap.size _ 1 _ rfl (own_tell wr) _ (k + 1) _ rfl (hRf.out.below (below1 wr _)) (by omega) (by unfold maxLen; omega) (by simp) ?_
             intro ao2 c2 w2 hown hgrow hat
             have H2 := hid (hS.out.two hown.out hgrow.out)
             obtain ⟨q0, q1, q2, qz⟩ := vfacts H2.out.1.r0
             have kl2 := lt_of H2.out.1.r0
             clear hown hgrow hat))
          | (go_at_call 10
             first
             | ((with_reducible show Calls _ _ _ (World.alloc w2 _) _)
                refine (HC1.out _ _ (H2.out.1.below (below1 w2 _)).code).mono ?_
                rintro e w3 ⟨rfl, hb3⟩
                have H3 := hid (twos H2.out hb3)
                obtain ⟨u0, u1, u2, -⟩ := vfacts H3.out.1
                clear hb3)
             | (refine (HC2.out _ _ H3.out.2.1).mono ?_
                rintro e w4 ⟨rfl, hb4⟩
                have H4 := hid (below_on H3.out.2.2 hb4)
                clear hb4))
          | (go_at_call 13
             refine (known_any _).mono ?_
             rintro e w5 ⟨rfl, hb5⟩
             have H5 := hid (below_on H4.out hb5)
             clear hb5))
        go_ret
        exact ⟨rfl, H5.out⟩)

end Go.Proofs.Ytljfmbjibjoiiaa

namespace Go.Proofs.Ytljfmbjibjoiiaa
open Go.RowKit Go.Lib

set_option maxRecDepth 100000 in
set_option maxHeartbeats 4000000 in
theorem edges_a0 (which v ar : Int) (m : Nat) (w : World) (a0 : 0 ≤ ar) (a1 : ar ≤ 16) (hm : (m : Int) ≤ 60)  (hw : which.tmod 4 = 0) :
    Calls Try.prog 8 #[.int .i64 10, .int .i64 which, .int .i64 v, .int .i64 ar, .int .i64 m] w fun x w' => x = .returned (.bool true) ∧ Below w.heap.size w w' := by
  have hm0 : (0 : Int) ≤ (m : Int) := by omega
  obtain ⟨x, hx⟩ : ∃ x : Ins, x = ⟨10, v, 0, 0, 3, 0, 0, emp⟩ := ⟨_, rfl⟩
  have H0 := hid (egs_start w ar x)
  rw [hx] at H0
  have hk : x.k = 0 ∧ x.i = 0 ∧ x.t = emp := by rw [hx]; exact ⟨rfl, rfl, rfl⟩
  have HE := hid (plain_err x hk.1 hk.2.1 hk.2.2 ar m)
  have HC1 := hid (fun S W hW => pcheck_any p1 ar S (x :: List.replicate m stopI) W hW (by simp; omega))
  rw [edge_one x ar a0 a1 m (by omega)] at HC1
  have HC2 := hid (fun S W hW => pcheck_any p2 ar S (tellI :: x :: List.replicate m stopI) W hW (by simp; omega))
  rw [edge_two x ar a0 a1 m (by omega)] at HC2
  obtain ⟨E, hE⟩ : ∃ E, E = insErr x ar m := ⟨_, rfl⟩
  rw [← hE] at HE HC1 HC2
  dsimp only at HC1 HC2
  rw [← hx] at H0
  have HX := hid hx
  clear hx hk hE
  go_enter Try.func8, Try.ntmps8
  go_wp2_with fail
  go_loopw [14] (fun ix wr => ∃ (k : Nat) (ao : Option Addr) (cc : Nat), k ≤ m ∧ ix = .int .i64 k ∧ Hid (Egs w wr ar (.slice ao (k + 1) cc) (x :: List.replicate k stopI) (w.heap.size + 1 + 1))) (fun ix _ => m - (intOf ix).toNat)
  case atStart =>
    refine ⟨0, some ⟨w.heap.size + 1, 0, none⟩, 1, Nat.zero_le _, rfl, hid ?_⟩
    have := H0.out
    rw [HX.out] at this ⊢
    exact this
  case round =>
    clear H0
    obtain ⟨k, ao, cc, hk, rfl, hS⟩ := hrel
    obtain ⟨q0, q1, q2, qz⟩ := vfacts hS.out.r0
    have kl := lt_of hS.out.r0
    by_cases hlt : k < m
    · have hlt' : (k : Int) < (m : Int) := by omega
      go_wp2_with (at_builtin; go_loud (
        refine wpList_append_rf _ rfl _ _ 22 28 (.agg zCells) 8 72 rfl Try.underlying22 Try.info28z rfl (by decide) (w.heap.size + 1) _ (k + 1) _ rfl (hS.out.own.alloc _) _ 1 ([stopI].flatMap Ins.cells) rfl (rf_stop wr) (by omega) (by unfold maxLen; omega) (hS.out.base _) ?_
        intro ao1 c1 w1 hown hgrow hat
        have H1 := hid (hS.out.grow hown.out hgrow.out)
        obtain ⟨q0, q1, q2, qz⟩ := vfacts H1.out.1
        clear hown hgrow hat))
      go_wp2
      go_roundw
      case rel => exact ⟨k + 1, ao1, c1, by omega, by go_num, hid H1.out.2⟩
      case measure => simp [intOf]; omega
    · obtain rfl : k = m := by omega
      have hRf := hid (rf_of_owns hS.out.own (all_one _))
      rcases HE.out with hE | hE
      all_goals (
        subst hE
        go_wp2_with (first
          | (at_builtin; go_loud (
             refine wpList_append_rf _ rfl _ _ 22 28 (.agg zCells) 8 72 rfl Try.underlying22 Try.info28z rfl (by decide) wr.heap.size _ 1 _ rfl (own_tell wr) _ (k + 1) _ rfl (hRf.out.below (below1 wr _)) (by omega) (by unfold maxLen; omega) (by simp) ?_
             intro ao2 c2 w2 hown hgrow hat
             have H2 := hid (hS.out.two hown.out hgrow.out)
             obtain ⟨q0, q1, q2, qz⟩ := vfacts H2.out.1.r0
             have kl2 := lt_of H2.out.1.r0
             clear hown hgrow hat))
          | (go_at_call 10
             first
             | ((with_reducible show Calls _ _ _ (World.alloc w2 _) _)
                refine (HC1.out _ _ (H2.out.1.below (below1 w2 _)).code).mono ?_
                rintro e w3 ⟨rfl, hb3⟩
                have H3 := hid (twos H2.out hb3)
                obtain ⟨u0, u1, u2, -⟩ := vfacts H3.out.1
                clear hb3)
             | (refine (HC2.out _ _ H3.out.2.1).mono ?_
                rintro e w4 ⟨rfl, hb4⟩
                have H4 := hid (below_on H3.out.2.2 hb4)
                clear hb4))
          | (go_at_call 13
             refine (known_any _).mono ?_
             rintro e w5 ⟨rfl, hb5⟩
             have H5 := hid (below_on H4.out hb5)
             clear hb5))
        go_ret
        exact ⟨rfl, H5.out⟩)

set_option maxRecDepth 100000 in
set_option maxHeartbeats 4000000 in
theorem edges_a1 (which v ar : Int) (m : Nat) (w : World) (a0 : 0 ≤ ar) (a1 : ar ≤ 16) (hm : (m : Int) ≤ 60)  (hw : which.tmod 4 = 1) :
    Calls Try.prog 8 #[.int .i64 10, .int .i64 which, .int .i64 v, .int .i64 ar, .int .i64 m] w fun x w' => x = .returned (.bool true) ∧ Below w.heap.size w w' := by
  have hm0 : (0 : Int) ≤ (m : Int) := by omega
  obtain ⟨x, hx⟩ : ∃ x : Ins, x = ⟨10, 0, v, 0, 3, 0, 0, emp⟩ := ⟨_, rfl⟩
  have H0 := hid (egs_start w ar x)
  rw [hx] at H0
  have hk : x.k = 0 ∧ x.i = 0 ∧ x.t = emp := by rw [hx]; exact ⟨rfl, rfl, rfl⟩
  have HE := hid (plain_err x hk.1 hk.2.1 hk.2.2 ar m)
  have HC1 := hid (fun S W hW => pcheck_any p1 ar S (x :: List.replicate m stopI) W hW (by simp; omega))
  rw [edge_one x ar a0 a1 m (by omega)] at HC1
  have HC2 := hid (fun S W hW => pcheck_any p2 ar S (tellI :: x :: List.replicate m stopI) W hW (by simp; omega))
  rw [edge_two x ar a0 a1 m (by omega)] at HC2
  obtain ⟨E, hE⟩ : ∃ E, E = insErr x ar m := ⟨_, rfl⟩
  rw [← hE] at HE HC1 HC2
  dsimp only at HC1 HC2
  rw [← hx] at H0
  have HX := hid hx
  clear hx hk hE
  go_enter Try.func8, Try.ntmps8
  go_wp2_with fail
  go_loopw [14] (fun ix wr => ∃ (k : Nat) (ao : Option Addr) (cc : Nat), k ≤ m ∧ ix = .int .i64 k ∧ Hid (Egs w wr ar (.slice ao (k + 1) cc) (x :: List.replicate k stopI) (w.heap.size + 1 + 1))) (fun ix _ => m - (intOf ix).toNat)
  case atStart =>
    refine ⟨0, some ⟨w.heap.size + 1, 0, none⟩, 1, Nat.zero_le _, rfl, hid ?_⟩
    have := H0.out
    rw [HX.out] at this ⊢
    exact this
  case round =>
    clear H0
    obtain ⟨k, ao, cc, hk, rfl, hS⟩ := hrel
    obtain ⟨q0, q1, q2, qz⟩ := vfacts hS.out.r0
    have kl := lt_of hS.out.r0
    by_cases hlt : k < m
    · have hlt' : (k : Int) < (m : Int) := by omega
      go_wp2_with (at_builtin; go_loud (
        refine wpList_append_rf _ rfl _ _ 22 28 (.agg zCells) 8 72 rfl Try.underlying22 Try.info28z rfl (by decide) (w.heap.size + 1) _ (k + 1) _ rfl (hS.out.own.alloc _) _ 1 ([stopI].flatMap Ins.cells) rfl (rf_stop wr) (by omega) (by unfold maxLen; omega) (hS.out.base _) ?_
        intro ao1 c1 w1 hown hgrow hat
        have H1 := hid (hS.out.grow hown.out hgrow.out)
        obtain ⟨q0, q1, q2, qz⟩ := vfacts H1.out.1
        clear hown hgrow hat))
      go_wp2
      go_roundw
      case rel => exact ⟨k + 1, ao1, c1, by omega, by go_num, hid H1.out.2⟩
      case measure => simp [intOf]; omega
    · obtain rfl : k = m := by omega
      have hRf := hid (rf_of_owns hS.out.own (all_one _))
      rcases HE.out with hE | hE
      all_goals (
        subst hE
        go_wp2_with (first
          | (at_builtin; go_loud (
             refine wpList_append_rf _ rfl _ _ 22 28 (.agg zCells) 8 72 rfl Try.underlying22 Try.info28z rfl (by decide) wr.heap.size _ 1 _ rfl (own_tell wr) _ (k + 1) _ rfl (hRf.out.below (below1 wr _)) (by omega) (by unfold maxLen; omega) (by simp) ?_
             intro ao2 c2 w2 hown hgrow hat
             have H2 := hid (hS.out.two hown.out hgrow.out)
             obtain ⟨q0, q1, q2, qz⟩ := vfacts H2.out.1.r0
             have kl2 := lt_of H2.out.1.r0
             clear hown hgrow hat))
          | (go_at_call 10
             first
             | ((with_reducible show Calls _ _ _ (World.alloc w2 _) _)
                refine (HC1.out _ _ (H2.out.1.below (below1 w2 _)).code).mono ?_
                rintro e w3 ⟨rfl, hb3⟩
                have H3 := hid (twos H2.out hb3)
                obtain ⟨u0, u1, u2, -⟩ := vfacts H3.out.1
                clear hb3)
             | (refine (HC2.out _ _ H3.out.2.1).mono ?_
                rintro e w4 ⟨rfl, hb4⟩
                have H4 := hid (below_on H3.out.2.2 hb4)
                clear hb4))
          | (go_at_call 13
             refine (known_any _).mono ?_
             rintro e w5 ⟨rfl, hb5⟩
             have H5 := hid (below_on H4.out hb5)
             clear hb5))
        go_ret
        exact ⟨rfl, H5.out⟩)

set_option maxRecDepth 100000 in
set_option maxHeartbeats 4000000 in
theorem edges_a2 (which v ar : Int) (m : Nat) (w : World) (a0 : 0 ≤ ar) (a1 : ar ≤ 16) (hm : (m : Int) ≤ 60)  (hw : which.tmod 4 = 2) :
    Calls Try.prog 8 #[.int .i64 10, .int .i64 which, .int .i64 v, .int .i64 ar, .int .i64 m] w fun x w' => x = .returned (.bool true) ∧ Below w.heap.size w w' := by
  have hm0 : (0 : Int) ≤ (m : Int) := by omega
  obtain ⟨x, hx⟩ : ∃ x : Ins, x = ⟨10, 0, 0, v, 3, 0, 0, emp⟩ := ⟨_, rfl⟩
  have H0 := hid (egs_start w ar x)
  rw [hx] at H0
  have hk : x.k = 0 ∧ x.i = 0 ∧ x.t = emp := by rw [hx]; exact ⟨rfl, rfl, rfl⟩
  have HE := hid (plain_err x hk.1 hk.2.1 hk.2.2 ar m)
  have HC1 := hid (fun S W hW => pcheck_any p1 ar S (x :: List.replicate m stopI) W hW (by simp; omega))
  rw [edge_one x ar a0 a1 m (by omega)] at HC1
  have HC2 := hid (fun S W hW => pcheck_any p2 ar S (tellI :: x :: List.replicate m stopI) W hW (by simp; omega))
  rw [edge_two x ar a0 a1 m (by omega)] at HC2
  obtain ⟨E, hE⟩ : ∃ E, E = insErr x ar m := ⟨_, rfl⟩
  rw [← hE] at HE HC1 HC2
  dsimp only at HC1 HC2
  rw [← hx] at H0
  have HX := hid hx
  clear hx hk hE
  go_enter Try.func8, Try.ntmps8
  go_wp2_with fail
  go_loopw [14] (fun ix wr => ∃ (k : Nat) (ao : Option Addr) (cc : Nat), k ≤ m ∧ ix = .int .i64 k ∧ Hid (Egs w wr ar (.slice ao (k + 1) cc) (x :: List.replicate k stopI) (w.heap.size + 1 + 1))) (fun ix _ => m - (intOf ix).toNat)
  case atStart =>
    refine ⟨0, some ⟨w.heap.size + 1, 0, none⟩, 1, Nat.zero_le _, rfl, hid ?_⟩
    have := H0.out
    rw [HX.out] at this ⊢
    exact this
  case round =>
    clear H0
    obtain ⟨k, ao, cc, hk, rfl, hS⟩ := hrel
    obtain ⟨q0, q1, q2, qz⟩ := vfacts hS.out.r0
    have kl := lt_of hS.out.r0
    by_cases hlt : k < m
    · have hlt' : (k : Int) < (m : Int) := by omega
      go_wp2_with (at_builtin; go_loud (
        refine wpList_append_rf _ rfl _ _ 22 28 (.agg zCells) 8 72 rfl Try.underlying22 Try.info28z rfl (by decide) (w.heap.size + 1) _ (k + 1) _ rfl (hS.out.own.alloc _) _ 1 ([stopI].flatMap Ins.cells) rfl (rf_stop wr) (by omega) (by unfold maxLen; omega) (hS.out.base _) ?_
        intro ao1 c1 w1 hown hgrow hat
        have H1 := hid (hS.out.grow hown.out hgrow.out)
        obtain ⟨q0, q1, q2, qz⟩ := vfacts H1.out.1
        clear hown hgrow hat))
      go_wp2
      go_roundw
      case rel => exact ⟨k + 1, ao1, c1, by omega, by go_num, hid H1.out.2⟩
      case measure => simp [intOf]; omega
    · obtain rfl : k = m := by omega
      have hRf := hid (rf_of_owns hS.out.own (all_one _))
      rcases HE.out with hE | hE
      all_goals (
        subst hE
        go_wp2_with (first
          | (at_builtin; go_loud (
             refine wpList_append_rf _ rfl _ _ 22 28 (.agg zCells) 8 72 rfl Try.underlying22 Try.info28z rfl (by decide) wr.heap.size _ 1 _ rfl (own_tell wr) _ (k + 1) _ rfl (hRf.out.below (below1 wr _)) (by omega) (by unfold maxLen; omega) (by simp) ?_
             intro ao2 c2 w2 hown hgrow hat
             have H2 := hid (hS.out.two hown.out hgrow.out)
             obtain ⟨q0, q1, q2, qz⟩ := vfacts H2.out.1.r0
             have kl2 := lt_of H2.out.1.r0
             clear hown hgrow hat))
          | (go_at_call 10
             first
             | ((with_reducible show Calls _ _ _ (World.alloc w2 _) _)
                refine (HC1.out _ _ (H2.out.1.below (below1 w2 _)).code).mono ?_
                rintro e w3 ⟨rfl, hb3⟩
                have H3 := hid (twos H2.out hb3)
                obtain ⟨u0, u1, u2, -⟩ := vfacts H3.out.1
                clear hb3)
             | (refine (HC2.out _ _ H3.out.2.1).mono ?_
                rintro e w4 ⟨rfl, hb4⟩
                have H4 := hid (below_on H3.out.2.2 hb4)
                clear hb4))
          | (go_at_call 13
             refine (known_any _).mono ?_
             rintro e w5 ⟨rfl, hb5⟩
             have H5 := hid (below_on H4.out hb5)
             clear hb5))
        go_ret
        exact ⟨rfl, H5.out⟩)

set_option maxRecDepth 100000 in
set_option maxHeartbeats 4000000 in
theorem edges_a3 (which v ar : Int) (m : Nat) (w : World) (a0 : 0 ≤ ar) (a1 : ar ≤ 16) (hm : (m : Int) ≤ 60)  (h0 : (which.tmod 4 == 0) = false) (h1 : (which.tmod 4 == 1) = false) (h2 : (which.tmod 4 == 2) = false) :
    Calls Try.prog 8 #[.int .i64 10, .int .i64 which, .int .i64 v, .int .i64 ar, .int .i64 m] w fun x w' => x = .returned (.bool true) ∧ Below w.heap.size w w' := by
  have hm0 : (0 : Int) ≤ (m : Int) := by omega
  obtain ⟨x, hx⟩ : ∃ x : Ins, x = ⟨10, 0, 0, 0, v, 0, 0, emp⟩ := ⟨_, rfl⟩
  have H0 := hid (egs_start w ar x)
  rw [hx] at H0
  have hk : x.k = 0 ∧ x.i = 0 ∧ x.t = emp := by rw [hx]; exact ⟨rfl, rfl, rfl⟩
  have HE := hid (plain_err x hk.1 hk.2.1 hk.2.2 ar m)
  have HC1 := hid (fun S W hW => pcheck_any p1 ar S (x :: List.replicate m stopI) W hW (by simp; omega))
  rw [edge_one x ar a0 a1 m (by omega)] at HC1
  have HC2 := hid (fun S W hW => pcheck_any p2 ar S (tellI :: x :: List.replicate m stopI) W hW (by simp; omega))
  rw [edge_two x ar a0 a1 m (by omega)] at HC2
  obtain ⟨E, hE⟩ : ∃ E, E = insErr x ar m := ⟨_, rfl⟩
  rw [← hE] at HE HC1 HC2
  dsimp only at HC1 HC2
  rw [← hx] at H0
  have HX := hid hx
  clear hx hk hE
  go_enter Try.func8, Try.ntmps8
  go_wp2_with fail
  go_loopw [14] (fun ix wr => ∃ (k : Nat) (ao : Option Addr) (cc : Nat), k ≤ m ∧ ix = .int .i64 k ∧ Hid (Egs w wr ar (.slice ao (k + 1) cc) (x :: List.replicate k stopI) (w.heap.size + 1 + 1))) (fun ix _ => m - (intOf ix).toNat)
  case atStart =>
    refine ⟨0, some ⟨w.heap.size + 1, 0, none⟩, 1, Nat.zero_le _, rfl, hid ?_⟩
    have := H0.out
    rw [HX.out] at this ⊢
    exact this
  case round =>
    clear H0
    obtain ⟨k, ao, cc, hk, rfl, hS⟩ := hrel
    obtain ⟨q0, q1, q2, qz⟩ := vfacts hS.out.r0
    have kl := lt_of hS.out.r0
    by_cases hlt : k < m
    · have hlt' : (k : Int) < (m : Int) := by omega
      go_wp2_with (at_builtin; go_loud (
        refine wpList_append_rf _ rfl _ _ 22 28 (.agg zCells) 8 72 rfl Try.underlying22 Try.info28z rfl (by decide) (w.heap.size + 1) _ (k + 1) _ rfl (hS.out.own.alloc _) _ 1 ([stopI].flatMap Ins.cells) rfl (rf_stop wr) (by omega) (by unfold maxLen; omega) (hS.out.base _) ?_
        intro ao1 c1 w1 hown hgrow hat
        have H1 := hid (hS.out.grow hown.out hgrow.out)
        obtain ⟨q0, q1, q2, qz⟩ := vfacts H1.out.1
        clear hown hgrow hat))
      go_wp2
      go_roundw
      case rel => exact ⟨k + 1, ao1, c1, by omega, by go_num, hid H1.out.2⟩
      case measure => simp [intOf]; omega
    · obtain rfl : k = m := by omega
      have hRf := hid (rf_of_owns hS.out.own (all_one _))
      rcases HE.out with hE | hE
      all_goals (
        subst hE
        go_wp2_with (first
          | (at_builtin; go_loud (
             refine wpList_append_rf _ rfl _ _ 22 28 (.agg zCells) 8 72 rfl Try.underlying22 Try.info28z rfl (by decide) wr.heap.size _ 1 _ rfl (own_tell wr) _ (k + 1) _ rfl (hRf.out.below (below1 wr _)) (by omega) (by unfold maxLen; omega) (by simp) ?_
             intro ao2 c2 w2 hown hgrow hat
             have H2 := hid (hS.out.two hown.out hgrow.out)
             obtain ⟨q0, q1, q2, qz⟩ := vfacts H2.out.1.r0
             have kl2 := lt_of H2.out.1.r0
             clear hown hgrow hat))
          | (go_at_call 10
             first
             | ((with_reducible show Calls _ _ _ (World.alloc w2 _) _)
                refine (HC1.out _ _ (H2.out.1.below (below1 w2 _)).code).mono ?_
                rintro e w3 ⟨rfl, hb3⟩
                have H3 := hid (twos H2.out hb3)
                obtain ⟨u0, u1, u2, -⟩ := vfacts H3.out.1
                clear hb3)
             | (refine (HC2.out _ _ H3.out.2.1).mono ?_
                rintro e w4 ⟨rfl, hb4⟩
                have H4 := hid (below_on H3.out.2.2 hb4)
                clear hb4))
          | (go_at_call 13
             refine (known_any _).mono ?_
             rintro e w5 ⟨rfl, hb5⟩
             have H5 := hid (below_on H4.out hb5)
             clear hb5))
        go_ret
        exact ⟨rfl, H5.out⟩)

end Go.Proofs.Ytljfmbjibjoiiaa
