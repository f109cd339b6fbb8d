import Derived.Test.YtamajeagmkjjbaaRef3
import Derived.Test.YtamajeagmkjjbaaWtext
namespace Go.Proofs.Ytamajeagmkjjbaa
open Go.RowKit

set_option maxRecDepth 100000 in
set_option maxHeartbeats 400000 in
theorem rnumW_any (v : Value) (s : List Int × Int) (y : Int) (w : World) (h : Sn w v s.1) (hl : s.1.length ≤ 2000000000) (hy : y < 9223372036854775808) :
    Calls Try.prog 39 #[.agg #[v, .int .i64 s.2], .int .i64 y] w fun x w' => RWPost w v (rnumZ s y).1 (rnumZ s y).2 x w' := by
  obtain ⟨ao, c, rfl⟩ := h.form
  obtain ⟨bs, e⟩ := s
  have H := hid h
  clear h
  dsimp only at hl
  unfold rnumZ
  by_cases hn : y < 0
  · rw [if_pos hn]
    obtain ⟨R, hR⟩ : ∃ R, R = stopZ (bs, e) 15 := ⟨_, rfl⟩
    rw [← hR]
    have HR := hid hR
    clear hR
    go_enter Try.func39, Try.ntmps39
    go_wp2_with fail
    refine (rstop_any _ (bs, e) 15 _ ((H.out.alloc _).alloc _)).mono ?_
    rw [← HR.out]
    rintro x w1 ⟨v1, rfl, hs1, hb1, hf1⟩
    obtain ⟨ao1, c1, rfl⟩ := hs1.form
    have hq : w1.heap[w.heap.size + 1]? = some (.cells #[.slice none 0 0, .int .i64 0] 31 (0, 0)) := (hb1.block _ (by simp)).trans (new2 w _ _).1
    have HF := hid (rw_finish (e := R.2) hq hs1 ((((Below.refl _ _).alloc (Nat.le_refl _) _).alloc (by simp) _).trans (hb1.mono (by simp; omega))) (by omega) (fresh_mono hf1 (by first | omega | (simp; omega) | (simp at hz1; omega)) (Nat.le_refl _)))
    obtain ⟨d2, d3⟩ := cell_of_pair hq
    have z1 := free_of_block (o := 0) hq
    have z2 := free_of_block (o := 1) hq
    clear hq hs1 hb1 hf1 H HR
    go_wp2
    refine bodyPost_ret (v := .agg #[.slice ao1 R.1.length c1, .int .i64 R.2]) (by simp [results, Try.results39, go_sem, d2, d3]) rfl ?_
    exact HF.out
  · rw [if_neg hn]
    obtain ⟨R, hR⟩ : ∃ R, R = laidZ (bs, e) (rowF 10 y) := ⟨_, rfl⟩
    rw [← hR]
    have HR := hid hR
    have hy0 : 0 ≤ y := by omega
    have hlr := rowF_le 10 y
    have hwr : IntKind.u64.wrap y = y := by rw [IntKind.wrap_u64]; omega
    clear hR hn
    go_enter Try.func39, Try.ntmps39
    go_wp2_with fail
    obtain ⟨Wc, hWc⟩ : ∃ Wc, Wc = (w.alloc (.cells #[.slice ao bs.length c, .int .i64 e] 31)).alloc (.cells #[.slice none 0 0, .int .i64 0] 31) := ⟨_, rfl⟩
    have hb0 : Below w.heap.size w Wc := by rw [hWc]; exact ((Below.refl _ _).alloc (Nat.le_refl _) _).alloc (by simp) _
    have hz0 : Wc.heap.size = w.heap.size + 2 := by rw [hWc]; simp
    obtain ⟨hq0, hp0⟩ : Wc.heap[w.heap.size + 1]? = some (.cells #[.slice none 0 0, .int .i64 0] 31 (0, 0)) ∧ Wc.heap[w.heap.size]? = some (.cells #[.slice ao bs.length c, .int .i64 e] 31 (0, 0)) := by rw [hWc]; exact new2 w _ _
    rw [← hWc]
    obtain ⟨c0, c1⟩ := cell_of_pair hp0
    have Hq := hid hq0
    have Hz := hid hz0
    have hz : w.heap.size + 2 ≤ Wc.heap.size := by omega
    clear hWc hq0 hp0 hz0
    go_region_held3 (fun w' => w'.cell? ⟨w.heap.size, 0, none⟩ = some (.slice ao bs.length c) ∧ w'.cell? ⟨w.heap.size, 1, none⟩ = some (.int .i64 e))
      (first | (go_keep; done) | (rw [k0, k1]; exact ⟨c0, c1⟩) | (rw [m0, m1]; exact ⟨c0, c1⟩))
      (first
        | (go_at_call 57; refine (sevens_any y _ hy0 (by omega)).mono ?_; rintro x w1 ⟨vs, rfl, hsn, hb⟩; have hz1 := hb.size; have hbw := hb0.drew.trans (hb.mono (by simp; omega)); have k0 := hb.cell (p := ⟨w.heap.size, 0, none⟩) (by simp; omega); have k1 := hb.cell (p := ⟨w.heap.size, 1, none⟩) (by simp; omega))
        | (go_at_call 55; refine (rlaid_any _ _ (bs, e) (rowF 10 y) _ (H.out.below hbw) hsn (by dsimp only; omega)).mono ?_; rintro x w2 ⟨v1, rfl, hs1, hb1, hf1⟩; obtain ⟨ao1, c1', rfl⟩ := hs1.form; have m0 := hb1.cell (p := ⟨w.heap.size, 0, none⟩) (by simp at hz1; simp; omega); have m1 := hb1.cell (p := ⟨w.heap.size, 1, none⟩) (by simp at hz1; simp; omega); have hq2 := (hb1.block (w.heap.size + 1) (by simp at hz1; omega)).trans ((hb.block (w.heap.size + 1) (by simp; omega)).trans Hq.out); obtain ⟨d2, d3⟩ := cell_of_pair hq2; have z1 := free_of_block (o := 0) hq2; have z2 := free_of_block (o := 1) hq2; have HQ := hid hq2; clear hq2))
    have HF := hid (rw_finish (w := w) (e := (laidZ (bs, e) (rowF 10 y)).2) HQ.out hs1 (hbw.trans (hb1.mono (by simp at hz1; omega))) (by omega) (fresh_mono hf1 (by first | omega | (simp; omega) | (simp at hz1; omega)) (Nat.le_refl _)))
    clear hs1 hb1 hf1 hb hsn hbw k0 k1 m0 m1
    go_wp2
    refine bodyPost_ret (v := .agg #[.slice ao1 (laidZ (bs, e) (rowF 10 y)).1.length c1', .int .i64 (laidZ (bs, e) (rowF 10 y)).2]) (by simp [results, Try.results39, go_sem, d2, d3]) rfl ?_
    rw [HR.out]
    exact HF.out

set_option maxRecDepth 100000 in
set_option maxHeartbeats 400000 in
theorem rintW_any (v : Value) (s : List Int × Int) (y : Int) (w : World) (h : Sn w v s.1) (hl : s.1.length ≤ 2000000000) (hy1 : -9223372036854775808 ≤ y) (hy : y < 9223372036854775808) :
    Calls Try.prog 40 #[.agg #[v, .int .i64 s.2], .int .i64 y] w fun x w' => RWPost w v (rintZ s y).1 (rintZ s y).2 x w' := by
  obtain ⟨ao, c, rfl⟩ := h.form
  obtain ⟨bs, e⟩ := s
  have H := hid h
  clear h
  dsimp only at hl
  unfold rintZ
  by_cases hn : y < 0
  · rw [show foldZ y = 2 * (-(y + 1)) + 1 by unfold foldZ; rw [if_pos hn]; omega]
    have hw1 : IntKind.i64.wrap (y + 1) = y + 1 := by rw [IntKind.wrap_i64]; omega
    have hw2 : IntKind.i64.wrap (-(y + 1)) = -(y + 1) := by rw [IntKind.wrap_i64]; omega
    have hw3 : IntKind.u64.wrap (-(y + 1)) = -(y + 1) := by rw [IntKind.wrap_u64]; omega
    have hw4 : IntKind.u64.wrap (2 * (-(y + 1))) = 2 * (-(y + 1)) := by rw [IntKind.wrap_u64]; omega
    have hw5 : IntKind.u64.wrap (2 * (-(y + 1)) + 1) = 2 * (-(y + 1)) + 1 := by rw [IntKind.wrap_u64]; omega
    obtain ⟨R, hR⟩ : ∃ R, R = laidZ (bs, e) (rowF 10 (2 * (-(y + 1)) + 1)) := ⟨_, rfl⟩
    rw [← hR]
    have HR := hid hR
    have hlr := rowF_le 10 (2 * (-(y + 1)) + 1)
    clear hR
    go_enter Try.func40, Try.ntmps40
    go_wp2_with fail
    obtain ⟨Wc, hWc⟩ : ∃ Wc, Wc = (w.alloc (.cells #[.slice ao bs.length c, .int .i64 e] 31)).alloc (.cells #[.slice none 0 0, .int .i64 0] 31) := ⟨_, rfl⟩
    have hb0 : Below w.heap.size w Wc := by rw [hWc]; exact ((Below.refl _ _).alloc (Nat.le_refl _) _).alloc (by simp) _
    have hz0 : Wc.heap.size = w.heap.size + 2 := by rw [hWc]; simp
    obtain ⟨hq0, hp0⟩ : Wc.heap[w.heap.size + 1]? = some (.cells #[.slice none 0 0, .int .i64 0] 31 (0, 0)) ∧ Wc.heap[w.heap.size]? = some (.cells #[.slice ao bs.length c, .int .i64 e] 31 (0, 0)) := by rw [hWc]; exact new2 w _ _
    rw [← hWc]
    obtain ⟨c0, c1⟩ := cell_of_pair hp0
    have Hq := hid hq0
    have Hz := hid hz0
    have hz : w.heap.size + 2 ≤ Wc.heap.size := by omega
    clear hWc hq0 hp0 hz0
    go_region_held3 (fun w' => w'.cell? ⟨w.heap.size, 0, none⟩ = some (.slice ao bs.length c) ∧ w'.cell? ⟨w.heap.size, 1, none⟩ = some (.int .i64 e))
      (first | (go_keep; done) | (rw [k0, k1]; exact ⟨c0, c1⟩) | (rw [m0, m1]; exact ⟨c0, c1⟩))
      (first
        | (go_at_call 57; refine (sevens_any (2 * (-(y + 1)) + 1) _ (by omega) (by omega)).mono ?_; rintro x w1 ⟨vs, rfl, hsn, hb⟩; have hz1 := hb.size; have hbw := hb0.drew.trans (hb.mono (by simp; omega)); have k0 := hb.cell (p := ⟨w.heap.size, 0, none⟩) (by simp; omega); have k1 := hb.cell (p := ⟨w.heap.size, 1, none⟩) (by simp; omega))
        | (go_at_call 55; refine (rlaid_any _ _ (bs, e) (rowF 10 (2 * (-(y + 1)) + 1)) _ (H.out.below hbw) hsn (by dsimp only; omega)).mono ?_; rintro x w2 ⟨v1, rfl, hs1, hb1, hf1⟩; obtain ⟨ao1, c1', rfl⟩ := hs1.form; have m0 := hb1.cell (p := ⟨w.heap.size, 0, none⟩) (by simp at hz1; simp; omega); have m1 := hb1.cell (p := ⟨w.heap.size, 1, none⟩) (by simp at hz1; simp; omega); have hq2 := (hb1.block (w.heap.size + 1) (by simp at hz1; omega)).trans ((hb.block (w.heap.size + 1) (by simp; omega)).trans Hq.out); obtain ⟨d2, d3⟩ := cell_of_pair hq2; have z1 := free_of_block (o := 0) hq2; have z2 := free_of_block (o := 1) hq2; have HQ := hid hq2; clear hq2))
    have HF := hid (rw_finish (w := w) (e := (laidZ (bs, e) (rowF 10 (2 * (-(y + 1)) + 1))).2) HQ.out hs1 (hbw.trans (hb1.mono (by simp at hz1; omega))) (by omega) (fresh_mono hf1 (by first | omega | (simp; omega) | (simp at hz1; omega)) (Nat.le_refl _)))
    clear hs1 hb1 hf1 hb hsn hbw k0 k1 m0 m1
    go_wp2
    refine bodyPost_ret (v := .agg #[.slice ao1 (laidZ (bs, e) (rowF 10 (2 * (-(y + 1)) + 1))).1.length c1', .int .i64 (laidZ (bs, e) (rowF 10 (2 * (-(y + 1)) + 1))).2]) (by simp [results, Try.results40, go_sem, d2, d3]) rfl ?_
    rw [HR.out]
    exact HF.out
  · rw [show foldZ y = 2 * y by unfold foldZ; rw [if_neg hn]]
    have hw3 : IntKind.u64.wrap y = y := by rw [IntKind.wrap_u64]; omega
    have hw4 : IntKind.u64.wrap (2 * y) = 2 * y := by rw [IntKind.wrap_u64]; omega
    have hn2 : 0 ≤ y := by omega
    clear hn
    obtain ⟨R, hR⟩ : ∃ R, R = laidZ (bs, e) (rowF 10 (2 * y)) := ⟨_, rfl⟩
    rw [← hR]
    have HR := hid hR
    have hlr := rowF_le 10 (2 * y)
    clear hR
    go_enter Try.func40, Try.ntmps40
    go_wp2_with fail
    obtain ⟨Wc, hWc⟩ : ∃ Wc, Wc = (w.alloc (.cells #[.slice ao bs.length c, .int .i64 e] 31)).alloc (.cells #[.slice none 0 0, .int .i64 0] 31) := ⟨_, rfl⟩
    have hb0 : Below w.heap.size w Wc := by rw [hWc]; exact ((Below.refl _ _).alloc (Nat.le_refl _) _).alloc (by simp) _
    have hz0 : Wc.heap.size = w.heap.size + 2 := by rw [hWc]; simp
    obtain ⟨hq0, hp0⟩ : Wc.heap[w.heap.size + 1]? = some (.cells #[.slice none 0 0, .int .i64 0] 31 (0, 0)) ∧ Wc.heap[w.heap.size]? = some (.cells #[.slice ao bs.length c, .int .i64 e] 31 (0, 0)) := by rw [hWc]; exact new2 w _ _
    rw [← hWc]
    obtain ⟨c0, c1⟩ := cell_of_pair hp0
    have Hq := hid hq0
    have Hz := hid hz0
    have hz : w.heap.size + 2 ≤ Wc.heap.size := by omega
    clear hWc hq0 hp0 hz0
    go_region_held3 (fun w' => w'.cell? ⟨w.heap.size, 0, none⟩ = some (.slice ao bs.length c) ∧ w'.cell? ⟨w.heap.size, 1, none⟩ = some (.int .i64 e))
      (first | (go_keep; done) | (rw [k0, k1]; exact ⟨c0, c1⟩) | (rw [m0, m1]; exact ⟨c0, c1⟩))
      (first
        | (go_at_call 57; refine (sevens_any (2 * y) _ (by omega) (by omega)).mono ?_; rintro x w1 ⟨vs, rfl, hsn, hb⟩; have hz1 := hb.size; have hbw := hb0.drew.trans (hb.mono (by simp; omega)); have k0 := hb.cell (p := ⟨w.heap.size, 0, none⟩) (by simp; omega); have k1 := hb.cell (p := ⟨w.heap.size, 1, none⟩) (by simp; omega))
        | (go_at_call 55; refine (rlaid_any _ _ (bs, e) (rowF 10 (2 * y)) _ (H.out.below hbw) hsn (by dsimp only; omega)).mono ?_; rintro x w2 ⟨v1, rfl, hs1, hb1, hf1⟩; obtain ⟨ao1, c1', rfl⟩ := hs1.form; have m0 := hb1.cell (p := ⟨w.heap.size, 0, none⟩) (by simp at hz1; simp; omega); have m1 := hb1.cell (p := ⟨w.heap.size, 1, none⟩) (by simp at hz1; simp; omega); have hq2 := (hb1.block (w.heap.size + 1) (by simp at hz1; omega)).trans ((hb.block (w.heap.size + 1) (by simp; omega)).trans Hq.out); obtain ⟨d2, d3⟩ := cell_of_pair hq2; have z1 := free_of_block (o := 0) hq2; have z2 := free_of_block (o := 1) hq2; have HQ := hid hq2; clear hq2))
    have HF := hid (rw_finish (w := w) (e := (laidZ (bs, e) (rowF 10 (2 * y))).2) HQ.out hs1 (hbw.trans (hb1.mono (by simp at hz1; omega))) (by omega) (fresh_mono hf1 (by first | omega | (simp; omega) | (simp at hz1; omega)) (Nat.le_refl _)))
    clear hs1 hb1 hf1 hb hsn hbw k0 k1 m0 m1
    go_wp2
    refine bodyPost_ret (v := .agg #[.slice ao1 (laidZ (bs, e) (rowF 10 (2 * y))).1.length c1', .int .i64 (laidZ (bs, e) (rowF 10 (2 * y))).2]) (by simp [results, Try.results40, go_sem, d2, d3]) rfl ?_
    rw [HR.out]
    exact HF.out

end Go.Proofs.Ytamajeagmkjjbaa
