import Derived.Test.YtljfmbjibjoiiaaK15
import Derived.Test.YtljfmbjibjoiiaaK16
import Derived.Test.YtljfmbjibjoiiaaK17
import Derived.ProofKit
import Derived.OpenShut
import Derived.ShutString
import Derived.ChangeOld
namespace Go.Proofs.Ytljfmbjibjoiiaa
open Go.RowKit Go.Lib

set_option maxRecDepth 100000 in
set_option maxHeartbeats 4000000 in
theorem edges_d0 (which v ar : Int) (m : Nat) (w : World) (a0 : 0 ≤ ar) (a1 : ar ≤ 16) (hm : (m : Int) ≤ 60)  (hw : which.tmod 4 = 0) :
    Calls Try.prog 8 #[.int .i64 13, .int .i64 which, .int .i64 v, .int .i64 ar, .int .i64 m] w fun x w' => x = .returned (.bool true) ∧ Below w.heap.size w w' := by
  have hm0 : (0 : Int) ≤ (m : Int) := by omega
  obtain ⟨x, hx⟩ : ∃ x : Ins, x = ⟨13, v, 0, 0, 64, 0, 0, emp⟩ := ⟨_, rfl⟩
  have H0 := hid (egs_start w ar x)
  rw [hx] at H0
  have hk : x.k = 0 ∧ x.i = 0 ∧ x.t = emp := by rw [hx]; exact ⟨rfl, rfl, rfl⟩
  have HE := hid (plain_err x hk.1 hk.2.1 hk.2.2 ar m)
  have HC1 := hid (fun S W hW => pcheck_any p1 ar S (x :: List.replicate m stopI) W hW (by simp; omega))
  rw [edge_one x ar a0 a1 m (by omega)] at HC1
  have HC2 := hid (fun S W hW => pcheck_any p2 ar S (tellI :: x :: List.replicate m stopI) W hW (by simp; omega))
  rw [edge_two x ar a0 a1 m (by omega)] at HC2
  obtain ⟨E, hE⟩ : ∃ E, E = insErr x ar m := ⟨_, rfl⟩
  rw [← hE] at HE HC1 HC2
  dsimp only at HC1 HC2
  rw [← hx] at H0
  have HX := hid hx
  clear hx hk hE
  go_enter Try.func8, Try.ntmps8
  go_wp2_with fail
  go_loopw [14] (fun ix wr => ∃ (k : Nat) (ao : Option Addr) (cc : Nat), k ≤ m ∧ ix = .int .i64 k ∧ Hid (Egs w wr ar (.slice ao (k + 1) cc) (x :: List.replicate k stopI) (w.heap.size + 1 + 1))) (fun ix _ => m - (intOf ix).toNat)
  case atStart =>
    refine ⟨0, some ⟨w.heap.size + 1, 0, none⟩, 1, Nat.zero_le _, rfl, hid ?_⟩
    have := H0.out
    rw [HX.out] at this ⊢
    exact this
  case round =>
    clear H0
    obtain ⟨k, ao, cc, hk, rfl, hS⟩ := hrel
    obtain ⟨q0, q1, q2, qz⟩ := vfacts hS.out.r0
    have kl := lt_of hS.out.r0
    by_cases hlt : k < m
    · have hlt' : (k : Int) < (m : Int) := by omega
      go_wp2_with (at_builtin; go_loud (
        refine wpList_append_rf _ rfl _ _ 22 28 (.agg zCells) 8 72 rfl Try.underlying22 Try.info28z rfl (by decide) (w.heap.size + 1) _ (k + 1) _ rfl (hS.out.own.alloc _) _ 1 ([stopI].flatMap Ins.cells) rfl (rf_stop wr) (by omega) (by unfold maxLen; omega) (hS.out.base _) ?_
        intro ao1 c1 w1 hown hgrow hat
        have H1 := hid (hS.out.grow hown.out hgrow.out)
        obtain ⟨q0, q1, q2, qz⟩ := vfacts H1.out.1
        clear hown hgrow hat))
      go_wp2
      go_roundw
      case rel => exact ⟨k + 1, ao1, c1, by omega, by go_num, hid H1.out.2⟩
      case measure => simp [intOf]; omega
    · obtain rfl : k = m := by omega
      have hRf := hid (rf_of_owns hS.out.own (all_one _))
      rcases HE.out with hE | hE
      all_goals (
        subst hE
        go_wp2_with (first
          | (at_builtin; go_loud (
             refine wpList_append_rf _ rfl _ _ 22 28 (.agg zCells) 8 72 rfl Try.underlying22 Try.info28z rfl (by decide) wr.heap.size _ 1 _ rfl (own_tell wr) _ (k + 1) _ rfl (hRf.out.below (below1 wr _)) (by omega) (by unfold maxLen; omega) (by simp) ?_
             intro ao2 c2 w2 hown hgrow hat
             have H2 := hid (hS.out.two hown.out hgrow.out)
             obtain ⟨q0, q1, q2, qz⟩ := vfacts H2.out.1.r0
             have kl2 := lt_of H2.out.1.r0
             clear hown hgrow hat))
          | (go_at_call 10
             first
             | ((with_reducible show Calls _ _ _ (World.alloc w2 _) _)
                refine (HC1.out _ _ (H2.out.1.below (below1 w2 _)).code).mono ?_
                rintro e w3 ⟨rfl, hb3⟩
                have H3 := hid (twos H2.out hb3)
                obtain ⟨u0, u1, u2, -⟩ := vfacts H3.out.1
                clear hb3)
             | (refine (HC2.out _ _ H3.out.2.1).mono ?_
                rintro e w4 ⟨rfl, hb4⟩
                have H4 := hid (below_on H3.out.2.2 hb4)
                clear hb4))
          | (go_at_call 13
             refine (known_any _).mono ?_
             rintro e w5 ⟨rfl, hb5⟩
             have H5 := hid (below_on H4.out hb5)
             clear hb5))
        go_ret
        exact ⟨rfl, H5.out⟩)

set_option maxRecDepth 100000 in
set_option maxHeartbeats 4000000 in
theorem edges_d1 (which v ar : Int) (m : Nat) (w : World) (a0 : 0 ≤ ar) (a1 : ar ≤ 16) (hm : (m : Int) ≤ 60)  (hw : which.tmod 4 = 1) :
    Calls Try.prog 8 #[.int .i64 13, .int .i64 which, .int .i64 v, .int .i64 ar, .int .i64 m] w fun x w' => x = .returned (.bool true) ∧ Below w.heap.size w w' := by
  have hm0 : (0 : Int) ≤ (m : Int) := by omega
  obtain ⟨x, hx⟩ : ∃ x : Ins, x = ⟨13, 0, v, 0, 64, 0, 0, emp⟩ := ⟨_, rfl⟩
  have H0 := hid (egs_start w ar x)
  rw [hx] at H0
  have hk : x.k = 0 ∧ x.i = 0 ∧ x.t = emp := by rw [hx]; exact ⟨rfl, rfl, rfl⟩
  have HE := hid (plain_err x hk.1 hk.2.1 hk.2.2 ar m)
  have HC1 := hid (fun S W hW => pcheck_any p1 ar S (x :: List.replicate m stopI) W hW (by simp; omega))
  rw [edge_one x ar a0 a1 m (by omega)] at HC1
  have HC2 := hid (fun S W hW => pcheck_any p2 ar S (tellI :: x :: List.replicate m stopI) W hW (by simp; omega))
  rw [edge_two x ar a0 a1 m (by omega)] at HC2
  obtain ⟨E, hE⟩ : ∃ E, E = insErr x ar m := ⟨_, rfl⟩
  rw [← hE] at HE HC1 HC2
  dsimp only at HC1 HC2
  rw [← hx] at H0
  have HX := hid hx
  clear hx hk hE
  go_enter Try.func8, Try.ntmps8
  go_wp2_with fail
  go_loopw [14] (fun ix wr => ∃ (k : Nat) (ao : Option Addr) (cc : Nat), k ≤ m ∧ ix = .int .i64 k ∧ Hid (Egs w wr ar (.slice ao (k + 1) cc) (x :: List.replicate k stopI) (w.heap.size + 1 + 1))) (fun ix _ => m - (intOf ix).toNat)
  case atStart =>
    refine ⟨0, some ⟨w.heap.size + 1, 0, none⟩, 1, Nat.zero_le _, rfl, hid ?_⟩
    have := H0.out
    rw [HX.out] at this ⊢
    exact this
  case round =>
    clear H0
    obtain ⟨k, ao, cc, hk, rfl, hS⟩ := hrel
    obtain ⟨q0, q1, q2, qz⟩ := vfacts hS.out.r0
    have kl := lt_of hS.out.r0
    by_cases hlt : k < m
    · have hlt' : (k : Int) < (m : Int) := by omega
      go_wp2_with (at_builtin; go_loud (
        refine wpList_append_rf _ rfl _ _ 22 28 (.agg zCells) 8 72 rfl Try.underlying22 Try.info28z rfl (by decide) (w.heap.size + 1) _ (k + 1) _ rfl (hS.out.own.alloc _) _ 1 ([stopI].flatMap Ins.cells) rfl (rf_stop wr) (by omega) (by unfold maxLen; omega) (hS.out.base _) ?_
        intro ao1 c1 w1 hown hgrow hat
        have H1 := hid (hS.out.grow hown.out hgrow.out)
        obtain ⟨q0, q1, q2, qz⟩ := vfacts H1.out.1
        clear hown hgrow hat))
      go_wp2
      go_roundw
      case rel => exact ⟨k + 1, ao1, c1, by omega, by go_num, hid H1.out.2⟩
      case measure => simp [intOf]; omega
    · obtain rfl : k = m := by omega
      have hRf := hid (rf_of_owns hS.out.own (all_one _))
      rcases HE.out with hE | hE
      all_goals (
        subst hE
        go_wp2_with (first
          | (at_builtin; go_loud (
             refine wpList_append_rf _ rfl _ _ 22 28 (.agg zCells) 8 72 rfl Try.underlying22 Try.info28z rfl (by decide) wr.heap.size _ 1 _ rfl (own_tell wr) _ (k + 1) _ rfl (hRf.out.below (below1 wr _)) (by omega) (by unfold maxLen; omega) (by simp) ?_
             intro ao2 c2 w2 hown hgrow hat
             have H2 := hid (hS.out.two hown.out hgrow.out)
             obtain ⟨q0, q1, q2, qz⟩ := vfacts H2.out.1.r0
             have kl2 := lt_of H2.out.1.r0
             clear hown hgrow hat))
          | (go_at_call 10
             first
             | ((with_reducible show Calls _ _ _ (World.alloc w2 _) _)
                refine (HC1.out _ _ (H2.out.1.below (below1 w2 _)).code).mono ?_
                rintro e w3 ⟨rfl, hb3⟩
                have H3 := hid (twos H2.out hb3)
                obtain ⟨u0, u1, u2, -⟩ := vfacts H3.out.1
                clear hb3)
             | (refine (HC2.out _ _ H3.out.2.1).mono ?_
                rintro e w4 ⟨rfl, hb4⟩
                have H4 := hid (below_on H3.out.2.2 hb4)
                clear hb4))
          | (go_at_call 13
             refine (known_any _).mono ?_
             rintro e w5 ⟨rfl, hb5⟩
             have H5 := hid (below_on H4.out hb5)
             clear hb5))
        go_ret
        exact ⟨rfl, H5.out⟩)

set_option maxRecDepth 100000 in
set_option maxHeartbeats 4000000 in
theorem edges_d2 (which v ar : Int) (m : Nat) (w : World) (a0 : 0 ≤ ar) (a1 : ar ≤ 16) (hm : (m : Int) ≤ 60)  (hw : which.tmod 4 = 2) :
    Calls Try.prog 8 #[.int .i64 13, .int .i64 which, .int .i64 v, .int .i64 ar, .int .i64 m] w fun x w' => x = .returned (.bool true) ∧ Below w.heap.size w w' := by
  have hm0 : (0 : Int) ≤ (m : Int) := by omega
  obtain ⟨x, hx⟩ : ∃ x : Ins, x = ⟨13, 0, 0, v, 64, 0, 0, emp⟩ := ⟨_, rfl⟩
  have H0 := hid (egs_start w ar x)
  rw [hx] at H0
  have hk : x.k = 0 ∧ x.i = 0 ∧ x.t = emp := by rw [hx]; exact ⟨rfl, rfl, rfl⟩
  have HE := hid (plain_err x hk.1 hk.2.1 hk.2.2 ar m)
  have HC1 := hid (fun S W hW => pcheck_any p1 ar S (x :: List.replicate m stopI) W hW (by simp; omega))
  rw [edge_one x ar a0 a1 m (by omega)] at HC1
  have HC2 := hid (fun S W hW => pcheck_any p2 ar S (tellI :: x :: List.replicate m stopI) W hW (by simp; omega))
  rw [edge_two x ar a0 a1 m (by omega)] at HC2
  obtain ⟨E, hE⟩ : ∃ E, E = insErr x ar m := ⟨_, rfl⟩
  rw [← hE] at HE HC1 HC2
  dsimp only at HC1 HC2
  rw [← hx] at H0
  have HX := hid hx
  clear hx hk hE
  go_enter Try.func8, Try.ntmps8
  go_wp2_with fail
  go_loopw [14] (fun ix wr => ∃ (k : Nat) (ao : Option Addr) (cc : Nat), k ≤ m ∧ ix = .int .i64 k ∧ Hid (Egs w wr ar (.slice ao (k + 1) cc) (x :: List.replicate k stopI) (w.heap.size + 1 + 1))) (fun ix _ => m - (intOf ix).toNat)
  case atStart =>
    refine ⟨0, some ⟨w.heap.size + 1, 0, none⟩, 1, Nat.zero_le _, rfl, hid ?_⟩
    have := H0.out
    rw [HX.out] at this ⊢
    exact this
  case round =>
    clear H0
    obtain ⟨k, ao, cc, hk, rfl, hS⟩ := hrel
    obtain ⟨q0, q1, q2, qz⟩ := vfacts hS.out.r0
    have kl := lt_of hS.out.r0
    by_cases hlt : k < m
    · have hlt' : (k : Int) < (m : Int) := by omega
      go_wp2_with (at_builtin; go_loud (
        refine wpList_append_rf _ rfl _ _ 22 28 (.agg zCells) 8 72 rfl Try.underlying22 Try.info28z rfl (by decide) (w.heap.size + 1) _ (k + 1) _ rfl (hS.out.own.alloc _) _ 1 ([stopI].flatMap Ins.cells) rfl (rf_stop wr) (by omega) (by unfold maxLen; omega) (hS.out.base _) ?_
        intro ao1 c1 w1 hown hgrow hat
        have H1 := hid (hS.out.grow hown.out hgrow.out)
        obtain ⟨q0, q1, q2, qz⟩ := vfacts H1.out.1
        clear hown hgrow hat))
      go_wp2
      go_roundw
      case rel => exact ⟨k + 1, ao1, c1, by omega, by go_num, hid H1.out.2⟩
      case measure => simp [intOf]; omega
    · obtain rfl : k = m := by omega
      have hRf := hid (rf_of_owns hS.out.own (all_one _))
      rcases HE.out with hE | hE
      all_goals (
        subst hE
        go_wp2_with (first
          | (at_builtin; go_loud (
             refine wpList_append_rf _ rfl _ _ 22 28 (.agg zCells) 8 72 rfl Try.underlying22 Try.info28z rfl (by decide) wr.heap.size _ 1 _ rfl (own_tell wr) _ (k + 1) _ rfl (hRf.out.below (below1 wr _)) (by omega) (by unfold maxLen; omega) (by simp) ?_
             intro ao2 c2 w2 hown hgrow hat
             have H2 := hid (hS.out.two hown.out hgrow.out)
             obtain ⟨q0, q1, q2, qz⟩ := vfacts H2.out.1.r0
             have kl2 := lt_of H2.out.1.r0
             clear hown hgrow hat))
          | (go_at_call 10
             first
             | ((with_reducible show Calls _ _ _ (World.alloc w2 _) _)
                refine (HC1.out _ _ (H2.out.1.below (below1 w2 _)).code).mono ?_
                rintro e w3 ⟨rfl, hb3⟩
                have H3 := hid (twos H2.out hb3)
                obtain ⟨u0, u1, u2, -⟩ := vfacts H3.out.1
                clear hb3)
             | (refine (HC2.out _ _ H3.out.2.1).mono ?_
                rintro e w4 ⟨rfl, hb4⟩
                have H4 := hid (below_on H3.out.2.2 hb4)
                clear hb4))
          | (go_at_call 13
             refine (known_any _).mono ?_
             rintro e w5 ⟨rfl, hb5⟩
             have H5 := hid (below_on H4.out hb5)
             clear hb5))
        go_ret
        exact ⟨rfl, H5.out⟩)

set_option maxRecDepth 100000 in
set_option maxHeartbeats 4000000 in
theorem edges_d3 (which v ar : Int) (m : Nat) (w : World) (a0 : 0 ≤ ar) (a1 : ar ≤ 16) (hm : (m : Int) ≤ 60)  (h0 : (which.tmod 4 == 0) = false) (h1 : (which.tmod 4 == 1) = false) (h2 : (which.tmod 4 == 2) = false) :
    Calls Try.prog 8 #[.int .i64 13, .int .i64 which, .int .i64 v, .int .i64 ar, .int .i64 m] w fun x w' => x = .returned (.bool true) ∧ Below w.heap.size w w' := by
  have hm0 : (0 : Int) ≤ (m : Int) := by omega
  obtain ⟨x, hx⟩ : ∃ x : Ins, x = ⟨13, 0, 0, 0, v, 0, 0, emp⟩ := ⟨_, rfl⟩
  have H0 := hid (egs_start w ar x)
  rw [hx] at H0
  have hk : x.k = 0 ∧ x.i = 0 ∧ x.t = emp := by rw [hx]; exact ⟨rfl, rfl, rfl⟩
  have HE := hid (plain_err x hk.1 hk.2.1 hk.2.2 ar m)
  have HC1 := hid (fun S W hW => pcheck_any p1 ar S (x :: List.replicate m stopI) W hW (by simp; omega))
  rw [edge_one x ar a0 a1 m (by omega)] at HC1
  have HC2 := hid (fun S W hW => pcheck_any p2 ar S (tellI :: x :: List.replicate m stopI) W hW (by simp; omega))
  rw [edge_two x ar a0 a1 m (by omega)] at HC2
  obtain ⟨E, hE⟩ : ∃ E, E = insErr x ar m := ⟨_, rfl⟩
  rw [← hE] at HE HC1 HC2
  dsimp only at HC1 HC2
  rw [← hx] at H0
  have HX := hid hx
  clear hx hk hE
  go_enter Try.func8, Try.ntmps8
  go_wp2_with fail
  go_loopw [14] (fun ix wr => ∃ (k : Nat) (ao : Option Addr) (cc : Nat), k ≤ m ∧ ix = .int .i64 k ∧ Hid (Egs w wr ar (.slice ao (k + 1) cc) (x :: List.replicate k stopI) (w.heap.size + 1 + 1))) (fun ix _ => m - (intOf ix).toNat)
  case atStart =>
    refine ⟨0, some ⟨w.heap.size + 1, 0, none⟩, 1, Nat.zero_le _, rfl, hid ?_⟩
    have := H0.out
    rw [HX.out] at this ⊢
    exact this
  case round =>
    clear H0
    obtain ⟨k, ao, cc, hk, rfl, hS⟩ := hrel
    obtain ⟨q0, q1, q2, qz⟩ := vfacts hS.out.r0
    have kl := lt_of hS.out.r0
    by_cases hlt : k < m
    · have hlt' : (k : Int) < (m : Int) := by omega
      go_wp2_with (at_builtin; go_loud (
        refine wpList_append_rf _ rfl _ _ 22 28 (.agg zCells) 8 72 rfl Try.underlying22 Try.info28z rfl (by decide) (w.heap.size + 1) _ (k + 1) _ rfl (hS.out.own.alloc _) _ 1 ([stopI].flatMap Ins.cells) rfl (rf_stop wr) (by omega) (by unfold maxLen; omega) (hS.out.base _) ?_
        intro ao1 c1 w1 hown hgrow hat
        have H1 := hid (hS.out.grow hown.out hgrow.out)
        obtain ⟨q0, q1, q2, qz⟩ := vfacts H1.out.1
        clear hown hgrow hat))
      go_wp2
      go_roundw
      case rel => exact ⟨k + 1, ao1, c1, by omega, by go_num, hid H1.out.2⟩
      case measure => simp [intOf]; omega
    · obtain rfl : k = m := by omega
      have hRf := hid (rf_of_owns hS.out.own (all_one _))
      rcases HE.out with hE | hE
      all_goals (
        subst hE
        go_wp2_with (first
          | (at_builtin; go_loud (
             refine wpList_append_rf _ rfl _ _ 22 28 (.agg zCells) 8 72 rfl Try.underlying22 Try.info28z rfl (by decide) wr.heap.size _ 1 _ rfl (own_tell wr) _ (k + 1) _ rfl (hRf.out.below (below1 wr _)) (by omega) (by unfold maxLen; omega) (by simp) ?_
             intro ao2 c2 w2 hown hgrow hat
             have H2 := hid (hS.out.two hown.out hgrow.out)
             obtain ⟨q0, q1, q2, qz⟩ := vfacts H2.out.1.r0
             have kl2 := lt_of H2.out.1.r0
             clear hown hgrow hat))
          | (go_at_call 10
             first
             | ((with_reducible show Calls _ _ _ (World.alloc w2 _) _)
                refine (HC1.out _ _ (H2.out.1.below (below1 w2 _)).code).mono ?_
                rintro e w3 ⟨rfl, hb3⟩
                have H3 := hid (twos H2.out hb3)
                obtain ⟨u0, u1, u2, -⟩ := vfacts H3.out.1
                clear hb3)
             | (refine (HC2.out _ _ H3.out.2.1).mono ?_
                rintro e w4 ⟨rfl, hb4⟩
                have H4 := hid (below_on H3.out.2.2 hb4)
                clear hb4))
          | (go_at_call 13
             refine (known_any _).mono ?_
             rintro e w5 ⟨rfl, hb5⟩
             have H5 := hid (below_on H4.out hb5)
             clear hb5))
        go_ret
        exact ⟨rfl, H5.out⟩)

end Go.Proofs.Ytljfmbjibjoiiaa

namespace Go.Proofs.Ytljfmbjibjoiiaa
open Go.ChangeShapes Go.WideShapes Go.ChangeAt Go.RowKit

set_option maxRecDepth 100000 in
set_option maxHeartbeats 1600000 in
theorem edges_out (op which v ar be : Int) (w : World) (h : ar < 0 ∨ 16 < ar ∨ be < 0 ∨ 60 < be) :
    Calls Try.prog 8 #[.int .i64 op, .int .i64 which, .int .i64 v, .int .i64 ar, .int .i64 be] w fun x w' => x = .returned (.bool true) ∧ Below w.heap.size w w' := by
  by_cases h1 : ar < 0
  · go_enter Try.func8, Try.ntmps8
    go_wp2
    go_ret
    exact ⟨rfl, Below.refl _ _⟩
  · have h1' : 0 ≤ ar := by omega
    by_cases h2 : 16 < ar
    · go_enter Try.func8, Try.ntmps8
      go_wp2
      go_ret
      exact ⟨rfl, Below.refl _ _⟩
    · have h2' : ar ≤ 16 := by omega
      by_cases h3 : be < 0
      · go_enter Try.func8, Try.ntmps8
        go_wp2
        go_ret
        exact ⟨rfl, Below.refl _ _⟩
      · have h3' : 0 ≤ be := by omega
        have h4 : 60 < be := by omega
        go_enter Try.func8, Try.ntmps8
        go_wp2
        go_ret
        exact ⟨rfl, Below.refl _ _⟩

theorem edges_any (op which v ar be : Int) (w : World) :
    Calls Try.prog 8 #[.int .i64 op, .int .i64 which, .int .i64 v, .int .i64 ar, .int .i64 be] w fun x w' => x = .returned (.bool true) ∧ Below w.heap.size w w' := by
  by_cases h : ar < 0 ∨ 16 < ar ∨ be < 0 ∨ 60 < be
  · exact edges_out op which v ar be w h
  · obtain ⟨m, rfl⟩ : ∃ m : Nat, be = m := ⟨be.toNat, by omega⟩
    have a0 : 0 ≤ ar := by omega
    have a1 : ar ≤ 16 := by omega
    have hm : (m : Int) ≤ 60 := by omega
    by_cases f0 : which.tmod 4 = 0
    · by_cases o1 : op = 10
      · subst o1; exact edges_a0 which v ar m w a0 a1 hm f0
      by_cases o2 : op = 11
      · subst o2; exact edges_b0 which v ar m w a0 a1 hm f0
      by_cases o3 : op = 12
      · subst o3; exact edges_c0 which v ar m w a0 a1 hm f0
      by_cases o4 : op = 13
      · subst o4; exact edges_d0 which v ar m w a0 a1 hm f0
      exact edges_e0 op which v ar m w a0 a1 hm (by simpa using o1) (by simpa using o2) (by simpa using o3) (by simpa using o4) f0
    by_cases f1 : which.tmod 4 = 1
    · by_cases o1 : op = 10
      · subst o1; exact edges_a1 which v ar m w a0 a1 hm f1
      by_cases o2 : op = 11
      · subst o2; exact edges_b1 which v ar m w a0 a1 hm f1
      by_cases o3 : op = 12
      · subst o3; exact edges_c1 which v ar m w a0 a1 hm f1
      by_cases o4 : op = 13
      · subst o4; exact edges_d1 which v ar m w a0 a1 hm f1
      exact edges_e1 op which v ar m w a0 a1 hm (by simpa using o1) (by simpa using o2) (by simpa using o3) (by simpa using o4) f1
    by_cases f2 : which.tmod 4 = 2
    · by_cases o1 : op = 10
      · subst o1; exact edges_a2 which v ar m w a0 a1 hm f2
      by_cases o2 : op = 11
      · subst o2; exact edges_b2 which v ar m w a0 a1 hm f2
      by_cases o3 : op = 12
      · subst o3; exact edges_c2 which v ar m w a0 a1 hm f2
      by_cases o4 : op = 13
      · subst o4; exact edges_d2 which v ar m w a0 a1 hm f2
      exact edges_e2 op which v ar m w a0 a1 hm (by simpa using o1) (by simpa using o2) (by simpa using o3) (by simpa using o4) f2
    have g0 : (which.tmod 4 == 0) = false := by simpa using f0
    have g1 : (which.tmod 4 == 1) = false := by simpa using f1
    have g2 : (which.tmod 4 == 2) = false := by simpa using f2
    by_cases o1 : op = 10
    · subst o1; exact edges_a3 which v ar m w a0 a1 hm g0 g1 g2
    by_cases o2 : op = 11
    · subst o2; exact edges_b3 which v ar m w a0 a1 hm g0 g1 g2
    by_cases o3 : op = 12
    · subst o3; exact edges_c3 which v ar m w a0 a1 hm g0 g1 g2
    by_cases o4 : op = 13
    · subst o4; exact edges_d3 which v ar m w a0 a1 hm g0 g1 g2
    exact edges_e3 op which v ar m w a0 a1 hm (by simpa using o1) (by simpa using o2) (by simpa using o3) (by simpa using o4) g0 g1 g2

theorem Try.own : ownKnob Try.prog.godebug = none := by kernel_rfl

set_option maxRecDepth 100000 in
theorem edges_lifted (os : Os) (started : os.Started) (H : Type) (enc : TypeId × Value → H) :
    ReturnsInHanded {} Try.checked os 8 .any (Rows.procEdgesSpec.pre6 enc Try.prog Try.f8 Rows.procEdgesRow.domain false) (Rows.procEdgesSpec.post enc Try.prog Try.f8 false true false false) := by
  refine returnsInHanded_of_change (C := Try.checked) Try.own started (by kernel_rfl) Try.func8
    (ChangeSpec.witness6 (enc := enc) (C := Try.checked) false ⟨#[], #[.int .i64 0, .int .i64 0, .int .i64 0, .int .i64 0, .int .i64 0], []⟩ 8 (by kernel_rfl) (by kernel_rfl) (by kernel_rfl) (by kernel_rfl)) ?_
  intro W base args ds gs before hval0 hW hcnd _
  have hval : ∀ (j : Nat) t v, Try.f8.params[j]? = some t → args[j]? = some v → Value.okWide Try.prog W .any base t v := hval0
  have hW' := hW
  obtain ⟨p, q, hA0, hV, rfl, hfz, hnd⟩ := hW
  have hA : DataW.TrodAll enc Try.prog W 0 (fun _ => true) true Try.f8.params.toList args.toList ds p := hA0
  rw [Try.params8] at hA hval
  obtain ⟨v0, vs0, d0, ds0, p0, q0, hargs, rfl, rfl, h0, r0⟩ := trodAll_cons hA
  obtain ⟨v1, vs1, d1, ds1, p1, q1, rfl, rfl, rfl, h1, r1⟩ := trodAll_cons r0
  obtain ⟨v2, vs2, d2, ds2, p2, q2, rfl, rfl, rfl, h2, r2⟩ := trodAll_cons r1
  obtain ⟨v3, vs3, d3, ds3, p3, q3, rfl, rfl, rfl, h3, r3⟩ := trodAll_cons r2
  obtain ⟨v4, vs4, d4, ds4, p4, q4, rfl, rfl, rfl, h4, r4⟩ := trodAll_cons r3
  obtain ⟨rfl, rfl, rfl⟩ := trodAll_nil r4
  obtain rfl : args = #[v0, v1, v2, v3, v4] := by cases args; simp_all
  obtain ⟨rfl, rfl⟩ := trodVars_none hV
  obtain ⟨a0, rfl, rfl, rfl, w0⟩ := open_int Try.underlying3 (hval 0 3 v0 rfl rfl) h0
  obtain ⟨a1, rfl, rfl, rfl, w1⟩ := open_int Try.underlying3 (hval 1 3 v1 rfl rfl) h1
  obtain ⟨a2, rfl, rfl, rfl, w2⟩ := open_int Try.underlying3 (hval 2 3 v2 rfl rfl) h2
  obtain ⟨a3, rfl, rfl, rfl, w3⟩ := open_int Try.underlying3 (hval 3 3 v3 rfl rfl) h3
  obtain ⟨a4, rfl, rfl, rfl, w4⟩ := open_int Try.underlying3 (hval 4 3 v4 rfl rfl) h4
  clear hA0 hval0
  refine (edges_any a0 a1 a2 a3 a4 W).mono fun e W' ⟨he, bel⟩ => ?_
  subst he
  exact ⟨_, rfl, _, _, _, [], _, [], hW', trodAll_mk1 (shut_bool Try.underlying4 _), (trodAll_cons_mk (shut_int Try.underlying3 w0) (trodAll_cons_mk (shut_int Try.underlying3 w1) (trodAll_cons_mk (shut_int Try.underlying3 w2) (trodAll_cons_mk (shut_int Try.underlying3 w3) (trodAll_cons_mk (shut_int Try.underlying3 w4) trodAll_mk0))))), rfl, bel.frame _, fun h => by cases h⟩

theorem procEdges_holds : Rows.ProcEdgesSaid :=
  OpenClaim.holds_of_wide 8 Try.f8 rfl rfl rfl rfl rfl rfl rfl ⟨rfl, rfl, rfl, rfl, rfl⟩ rfl rfl rfl rfl rfl (by kernel_rfl) Try.func8 (by kernel_rfl)
    (of_decide_eq_true (by kernel_rfl)) (by unfold Func.isWrapper; first | (rw [if_pos (by decide +kernel)]; kernel_rfl) | (rw [if_neg (by decide +kernel)]; exact ⟨rfl, rfl⟩))
    (fun os started H enc _ => edges_lifted os started H enc)

#print axioms procEdges_holds
end Go.Proofs.Ytljfmbjibjoiiaa
