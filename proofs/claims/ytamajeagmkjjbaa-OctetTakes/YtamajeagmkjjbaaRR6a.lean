import Derived.Test.YtamajeagmkjjbaaRR4
namespace Go.Proofs.Ytamajeagmkjjbaa
open Go.RowKit

set_option maxRecDepth 100000 in
set_option maxHeartbeats 1600000 in
theorem rtext_okp (ao : Option Addr) (c : Nat) (bs L : List Int) (at' a2 uu : Nat) (st n : Int) (w : World) (hl : bs.length ≤ 1000000000) (_ha : at' ≤ bs.length) (hc : bs.length ≤ c) (ha3 : a2 + uu ≤ bs.length) (hn0 : -9223372036854775808 ≤ n) (hn1 : n < 9223372036854775808) (hn : 0 ≤ n) (hx1 : (uu : Int) ≤ n)
    (hsl : Sl w (sliced ao a2 (a2 + uu) c 1) L)
    (HN : Hid (∀ wx : World, Below w.heap.size w wx → Calls Try.prog 47 #[.agg #[.slice ao bs.length c, .int .i64 at', .int .i64 0, .int .i64 st]] wx fun x w' => RRPost wx (.slice ao bs.length c) (((uu : Int), []), a2, 0) (.int .i64 uu) x w')) :
    Calls Try.prog 49 #[.agg #[.slice ao bs.length c, .int .i64 at', .int .i64 0, .int .i64 st], .int .i64 n] w fun x w' => RRPost w (.slice ao bs.length c) (((uu : Int), L), a2 + uu, 0) (.string (mkStr L)) x w' := by
  have hsh : (uu : Int) ≤ (bs.length : Int) - a2 := by omega
  by_cases hca : c = a2
  · have hS : Sl w (.slice ao uu 0) L := by
      have := hsl
      unfold sliced at this
      rw [if_pos hca] at this
      simpa [hca] using this
    subst hca
    clear hsl
    go_enter Try.func49, Try.ntmps49
    go_wp2_with fail
    refine (HN.out _ (below2 w _ _)).mono ?_
    rintro x w1 ⟨st2, rfl, hst2, hb1⟩
    dsimp only
    have hz1 : w.heap.size + 2 ≤ w1.heap.size := by
      have := hb1.size
      simp at this
      omega
    have hq := (hb1.block (w.heap.size + 1) (by simp)).trans (new2r w _ _).1
    have hp := (hb1.block w.heap.size (by simp; omega)).trans (new2r w _ _).2
    obtain ⟨p0, p1, p2, p3⟩ := cell_of_four hp
    obtain ⟨q0, q1, q2, q3⟩ := cell_of_four hq
    have z0 := free_of_block (o := 0) hq
    have z1 := free_of_block (o := 1) hq
    have z2 := free_of_block (o := 2) hq
    have z3 := free_of_block (o := 3) hq
    have HQ := hid hq
    have hbw := (below2 w _ _).trans (hb1.mono (by simp; omega))
    have hs0 : w.heap.size < w1.heap.size := by omega
    have hs1 : w.heap.size + 1 < w1.heap.size := by omega
    clear hq hp HN hb1 hst2
    have hst3 := sl_string ((hS.below hbw).below ((Below.refl _ w1).alloc (Nat.le_refl _) (.cells #[.slice ao bs.length c, .int .i64 c, .int .i64 0, .int .i64 st2] 44)))
    clear hS
    go_wp2
    go_region
    all_goals go_wp2
    all_goals
      refine bodyPost_ret (v := .tuple #[.string (mkStr L), .agg #[.slice ao bs.length c, .int .i64 ((c : Int) + uu), .int .i64 0, .int .i64 st2]]) (by simp [results, Try.results49, go_sem, q0, q1, q2, q3, World.cell?_alloc_past, hs1]) rfl ?_
      refine ⟨st2, by simp, fun h => absurd rfl h, ?_⟩
      repeat (first | (with_reducible exact hbw) | (with_reducible refine Below.drew ?_) | (with_reducible refine Below.setCell ?_ (by dsimp only; omega) _) | (with_reducible refine Below.alloc ?_ (by simp; omega) _))
  · have hS : Sl w (.slice (Option.map (fun x => x.add a2) ao) uu (c - a2)) L := by
      have := hsl
      unfold sliced at this
      rw [if_neg hca] at this
      simpa using this
    clear hsl
    go_enter Try.func49, Try.ntmps49
    go_wp2_with fail
    refine (HN.out _ (below2 w _ _)).mono ?_
    rintro x w1 ⟨st2, rfl, hst2, hb1⟩
    dsimp only
    have hz1 : w.heap.size + 2 ≤ w1.heap.size := by
      have := hb1.size
      simp at this
      omega
    have hq := (hb1.block (w.heap.size + 1) (by simp)).trans (new2r w _ _).1
    have hp := (hb1.block w.heap.size (by simp; omega)).trans (new2r w _ _).2
    obtain ⟨p0, p1, p2, p3⟩ := cell_of_four hp
    obtain ⟨q0, q1, q2, q3⟩ := cell_of_four hq
    have z0 := free_of_block (o := 0) hq
    have z1 := free_of_block (o := 1) hq
    have z2 := free_of_block (o := 2) hq
    have z3 := free_of_block (o := 3) hq
    have HQ := hid hq
    have hbw := (below2 w _ _).trans (hb1.mono (by simp; omega))
    have hs0 : w.heap.size < w1.heap.size := by omega
    have hs1 : w.heap.size + 1 < w1.heap.size := by omega
    clear hq hp HN hb1 hst2
    have hst3 := sl_string ((hS.below hbw).below ((Below.refl _ w1).alloc (Nat.le_refl _) (.cells #[.slice ao bs.length c, .int .i64 a2, .int .i64 0, .int .i64 st2] 44)))
    clear hS
    go_wp2
    go_region
    all_goals go_wp2
    all_goals
      refine bodyPost_ret (v := .tuple #[.string (mkStr L), .agg #[.slice ao bs.length c, .int .i64 ((a2 : Int) + uu), .int .i64 0, .int .i64 st2]]) (by simp [results, Try.results49, go_sem, q0, q1, q2, q3, World.cell?_alloc_past, hs1]) rfl ?_
      refine ⟨st2, by simp, fun h => absurd rfl h, ?_⟩
      repeat (first | (with_reducible exact hbw) | (with_reducible refine Below.drew ?_) | (with_reducible refine Below.setCell ?_ (by dsimp only; omega) _) | (with_reducible refine Below.alloc ?_ (by simp; omega) _))

set_option maxRecDepth 100000 in
set_option maxHeartbeats 1600000 in
theorem rtext_okn (ao : Option Addr) (c : Nat) (bs L : List Int) (at' a2 uu : Nat) (st n : Int) (w : World) (hl : bs.length ≤ 1000000000) (_ha : at' ≤ bs.length) (hc : bs.length ≤ c) (ha3 : a2 + uu ≤ bs.length) (_hn0 : -9223372036854775808 ≤ n) (_hn1 : n < 9223372036854775808) (hn : n < 0) (hx1 : (uu : Int) ≤ 0)
    (hsl : Sl w (sliced ao a2 (a2 + uu) c 1) L)
    (HN : Hid (∀ wx : World, Below w.heap.size w wx → Calls Try.prog 47 #[.agg #[.slice ao bs.length c, .int .i64 at', .int .i64 0, .int .i64 st]] wx fun x w' => RRPost wx (.slice ao bs.length c) (((uu : Int), []), a2, 0) (.int .i64 uu) x w')) :
    Calls Try.prog 49 #[.agg #[.slice ao bs.length c, .int .i64 at', .int .i64 0, .int .i64 st], .int .i64 n] w fun x w' => RRPost w (.slice ao bs.length c) (((uu : Int), L), a2 + uu, 0) (.string (mkStr L)) x w' := by
  have hsh : (uu : Int) ≤ (bs.length : Int) - a2 := by omega
  by_cases hca : c = a2
  · have hS : Sl w (.slice ao uu 0) L := by
      have := hsl
      unfold sliced at this
      rw [if_pos hca] at this
      simpa [hca] using this
    subst hca
    clear hsl
    go_enter Try.func49, Try.ntmps49
    go_wp2_with fail
    refine (HN.out _ (below2 w _ _)).mono ?_
    rintro x w1 ⟨st2, rfl, hst2, hb1⟩
    dsimp only
    have hz1 : w.heap.size + 2 ≤ w1.heap.size := by
      have := hb1.size
      simp at this
      omega
    have hq := (hb1.block (w.heap.size + 1) (by simp)).trans (new2r w _ _).1
    have hp := (hb1.block w.heap.size (by simp; omega)).trans (new2r w _ _).2
    obtain ⟨p0, p1, p2, p3⟩ := cell_of_four hp
    obtain ⟨q0, q1, q2, q3⟩ := cell_of_four hq
    have z0 := free_of_block (o := 0) hq
    have z1 := free_of_block (o := 1) hq
    have z2 := free_of_block (o := 2) hq
    have z3 := free_of_block (o := 3) hq
    have HQ := hid hq
    have hbw := (below2 w _ _).trans (hb1.mono (by simp; omega))
    have hs0 : w.heap.size < w1.heap.size := by omega
    have hs1 : w.heap.size + 1 < w1.heap.size := by omega
    clear hq hp HN hb1 hst2
    have hst3 := sl_string ((hS.below hbw).below ((Below.refl _ w1).alloc (Nat.le_refl _) (.cells #[.slice ao bs.length c, .int .i64 c, .int .i64 0, .int .i64 st2] 44)))
    clear hS
    go_wp2
    go_region
    all_goals go_wp2
    all_goals
      refine bodyPost_ret (v := .tuple #[.string (mkStr L), .agg #[.slice ao bs.length c, .int .i64 ((c : Int) + uu), .int .i64 0, .int .i64 st2]]) (by simp [results, Try.results49, go_sem, q0, q1, q2, q3, World.cell?_alloc_past, hs1]) rfl ?_
      refine ⟨st2, by simp, fun h => absurd rfl h, ?_⟩
      repeat (first | (with_reducible exact hbw) | (with_reducible refine Below.drew ?_) | (with_reducible refine Below.setCell ?_ (by dsimp only; omega) _) | (with_reducible refine Below.alloc ?_ (by simp; omega) _))
  · have hS : Sl w (.slice (Option.map (fun x => x.add a2) ao) uu (c - a2)) L := by
      have := hsl
      unfold sliced at this
      rw [if_neg hca] at this
      simpa using this
    clear hsl
    go_enter Try.func49, Try.ntmps49
    go_wp2_with fail
    refine (HN.out _ (below2 w _ _)).mono ?_
    rintro x w1 ⟨st2, rfl, hst2, hb1⟩
    dsimp only
    have hz1 : w.heap.size + 2 ≤ w1.heap.size := by
      have := hb1.size
      simp at this
      omega
    have hq := (hb1.block (w.heap.size + 1) (by simp)).trans (new2r w _ _).1
    have hp := (hb1.block w.heap.size (by simp; omega)).trans (new2r w _ _).2
    obtain ⟨p0, p1, p2, p3⟩ := cell_of_four hp
    obtain ⟨q0, q1, q2, q3⟩ := cell_of_four hq
    have z0 := free_of_block (o := 0) hq
    have z1 := free_of_block (o := 1) hq
    have z2 := free_of_block (o := 2) hq
    have z3 := free_of_block (o := 3) hq
    have HQ := hid hq
    have hbw := (below2 w _ _).trans (hb1.mono (by simp; omega))
    have hs0 : w.heap.size < w1.heap.size := by omega
    have hs1 : w.heap.size + 1 < w1.heap.size := by omega
    clear hq hp HN hb1 hst2
    have hst3 := sl_string ((hS.below hbw).below ((Below.refl _ w1).alloc (Nat.le_refl _) (.cells #[.slice ao bs.length c, .int .i64 a2, .int .i64 0, .int .i64 st2] 44)))
    clear hS
    go_wp2
    go_region
    all_goals go_wp2
    all_goals
      refine bodyPost_ret (v := .tuple #[.string (mkStr L), .agg #[.slice ao bs.length c, .int .i64 ((a2 : Int) + uu), .int .i64 0, .int .i64 st2]]) (by simp [results, Try.results49, go_sem, q0, q1, q2, q3, World.cell?_alloc_past, hs1]) rfl ?_
      refine ⟨st2, by simp, fun h => absurd rfl h, ?_⟩
      repeat (first | (with_reducible exact hbw) | (with_reducible refine Below.drew ?_) | (with_reducible refine Below.setCell ?_ (by dsimp only; omega) _) | (with_reducible refine Below.alloc ?_ (by simp; omega) _))

end Go.Proofs.Ytamajeagmkjjbaa
