import Derived.Test.YtdnlfacfleemeaaGreatK30
import Derived.Test.YtdnlfacfleemeaaGreatK02
import Derived.Test.YtdnlfacfleemeaaGreatK27
import Derived.Test.YtdnlfacfleemeaaGreatK29
namespace Go.Proofs.YtdnlfacfleemeaaGreat
open Go.RowKit

set_option maxRecDepth 100000 in
set_option maxHeartbeats 400000 in
theorem rnumW_any (v : Value) (s : List Int × Int) (y : Int) (w : World) (h : Sn w v s.1) (hl : s.1.length ≤ 2000000000) (hy : y < 9223372036854775808) :
    Calls Tryz.prog 24 #[.agg #[v, .int .i64 s.2], .int .i64 y] w fun x w' => RWPost w v (rnumZ s y).1 (rnumZ s y).2 x w' := by
  obtain ⟨ao, c, rfl⟩ := h.form
  obtain ⟨bs, e⟩ := s
  have H := hid h
  clear h
  dsimp only at hl
  unfold rnumZ
  by_cases hn : y < 0
  · rw [if_pos hn]
    obtain ⟨R, hR⟩ : ∃ R, R = stopZ (bs, e) 15 := ⟨_, rfl⟩
    rw [← hR]
    have HR := hid hR
    clear hR
    go_enter Tryz.func24, Tryz.ntmps24
    go_wp2_with fail
    refine (rstop_any _ (bs, e) 15 _ ((H.out.alloc _).alloc _)).mono ?_
    rw [← HR.out]
    rintro x w1 ⟨v1, rfl, hs1, hb1, hf1⟩
    obtain ⟨ao1, c1, rfl⟩ := hs1.form
    have hq : w1.heap[w.heap.size + 1]? = some (.cells #[.slice none 0 0, .int .i64 0] 66 (0, 0)) := (hb1.block _ (by simp)).trans (new2 w _ _).1
    have HF := hid (rw_finish (e := R.2) hq hs1 ((((Below.refl _ _).alloc (Nat.le_refl _) _).alloc (by simp) _).trans (hb1.mono (by simp; omega))) (by omega) (fresh_mono hf1 (by first | omega | (simp; omega) | (simp at hz1; omega)) (Nat.le_refl _)))
    obtain ⟨d2, d3⟩ := cell_of_pair hq
    have z1 := free_of_block (o := 0) hq
    have z2 := free_of_block (o := 1) hq
    clear hq hs1 hb1 hf1 H HR
    go_wp2
    refine bodyPost_ret (v := .agg #[.slice ao1 R.1.length c1, .int .i64 R.2]) (by simp [results, Tryz.results24, go_sem, d2, d3]) rfl ?_
    exact HF.out
  · rw [if_neg hn]
    obtain ⟨R, hR⟩ : ∃ R, R = laidZ (bs, e) (rowF 10 y) := ⟨_, rfl⟩
    rw [← hR]
    have HR := hid hR
    have hy0 : 0 ≤ y := by omega
    have hlr := rowF_le 10 y
    have hwr : IntKind.u64.wrap y = y := by rw [IntKind.wrap_u64]; omega
    clear hR hn
    go_enter Tryz.func24, Tryz.ntmps24
    go_wp2_with fail
    obtain ⟨Wc, hWc⟩ : ∃ Wc, Wc = (w.alloc (.cells #[.slice ao bs.length c, .int .i64 e] 66)).alloc (.cells #[.slice none 0 0, .int .i64 0] 66) := ⟨_, rfl⟩
    have hb0 : Below w.heap.size w Wc := by rw [hWc]; exact ((Below.refl _ _).alloc (Nat.le_refl _) _).alloc (by simp) _
    have hz0 : Wc.heap.size = w.heap.size + 2 := by rw [hWc]; simp
    obtain ⟨hq0, hp0⟩ : Wc.heap[w.heap.size + 1]? = some (.cells #[.slice none 0 0, .int .i64 0] 66 (0, 0)) ∧ Wc.heap[w.heap.size]? = some (.cells #[.slice ao bs.length c, .int .i64 e] 66 (0, 0)) := by rw [hWc]; exact new2 w _ _
    rw [← hWc]
    obtain ⟨c0, c1⟩ := cell_of_pair hp0
    have Hq := hid hq0
    have Hz := hid hz0
    have hz : w.heap.size + 2 ≤ Wc.heap.size := by omega
    clear hWc hq0 hp0 hz0
    go_region_held3 (fun w' => w'.cell? ⟨w.heap.size, 0, none⟩ = some (.slice ao bs.length c) ∧ w'.cell? ⟨w.heap.size, 1, none⟩ = some (.int .i64 e))
      (first | (go_keep; done) | (rw [k0, k1]; exact ⟨c0, c1⟩) | (rw [m0, m1]; exact ⟨c0, c1⟩))
      (first
        | (go_at_call 48; refine (sevens_any y _ hy0 (by omega)).mono ?_; rintro x w1 ⟨vs, rfl, hsn, hb⟩; have hz1 := hb.size; have hbw := hb0.drew.trans (hb.mono (by simp; omega)); have k0 := hb.cell (p := ⟨w.heap.size, 0, none⟩) (by simp; omega); have k1 := hb.cell (p := ⟨w.heap.size, 1, none⟩) (by simp; omega))
        | (go_at_call 47; refine (rlaid_any _ _ (bs, e) (rowF 10 y) _ (H.out.below hbw) hsn (by dsimp only; omega)).mono ?_; rintro x w2 ⟨v1, rfl, hs1, hb1, hf1⟩; obtain ⟨ao1, c1', rfl⟩ := hs1.form; have m0 := hb1.cell (p := ⟨w.heap.size, 0, none⟩) (by simp at hz1; simp; omega); have m1 := hb1.cell (p := ⟨w.heap.size, 1, none⟩) (by simp at hz1; simp; omega); have hq2 := (hb1.block (w.heap.size + 1) (by simp at hz1; omega)).trans ((hb.block (w.heap.size + 1) (by simp; omega)).trans Hq.out); obtain ⟨d2, d3⟩ := cell_of_pair hq2; have z1 := free_of_block (o := 0) hq2; have z2 := free_of_block (o := 1) hq2; have HQ := hid hq2; clear hq2))
    have HF := hid (rw_finish (w := w) (e := (laidZ (bs, e) (rowF 10 y)).2) HQ.out hs1 (hbw.trans (hb1.mono (by simp at hz1; omega))) (by omega) (fresh_mono hf1 (by first | omega | (simp; omega) | (simp at hz1; omega)) (Nat.le_refl _)))
    clear hs1 hb1 hf1 hb hsn hbw k0 k1 m0 m1
    go_wp2
    refine bodyPost_ret (v := .agg #[.slice ao1 (laidZ (bs, e) (rowF 10 y)).1.length c1', .int .i64 (laidZ (bs, e) (rowF 10 y)).2]) (by simp [results, Tryz.results24, go_sem, d2, d3]) rfl ?_
    rw [HR.out]
    exact HF.out

set_option maxRecDepth 100000 in
set_option maxHeartbeats 400000 in
theorem rintW_any (v : Value) (s : List Int × Int) (y : Int) (w : World) (h : Sn w v s.1) (hl : s.1.length ≤ 2000000000) (hy1 : -9223372036854775808 ≤ y) (hy : y < 9223372036854775808) :
    Calls Tryz.prog 75 #[.agg #[v, .int .i64 s.2], .int .i64 y] w fun x w' => RWPost w v (rintZ s y).1 (rintZ s y).2 x w' := by
  obtain ⟨ao, c, rfl⟩ := h.form
  obtain ⟨bs, e⟩ := s
  have H := hid h
  clear h
  dsimp only at hl
  unfold rintZ
  by_cases hn : y < 0
  · rw [show foldZ y = 2 * (-(y + 1)) + 1 by unfold foldZ; rw [if_pos hn]; omega]
    have hw1 : IntKind.i64.wrap (y + 1) = y + 1 := by rw [IntKind.wrap_i64]; omega
    have hw2 : IntKind.i64.wrap (-(y + 1)) = -(y + 1) := by rw [IntKind.wrap_i64]; omega
    have hw3 : IntKind.u64.wrap (-(y + 1)) = -(y + 1) := by rw [IntKind.wrap_u64]; omega
    have hw4 : IntKind.u64.wrap (2 * (-(y + 1))) = 2 * (-(y + 1)) := by rw [IntKind.wrap_u64]; omega
    have hw5 : IntKind.u64.wrap (2 * (-(y + 1)) + 1) = 2 * (-(y + 1)) + 1 := by rw [IntKind.wrap_u64]; omega
    obtain ⟨R, hR⟩ : ∃ R, R = laidZ (bs, e) (rowF 10 (2 * (-(y + 1)) + 1)) := ⟨_, rfl⟩
    rw [← hR]
    have HR := hid hR
    have hlr := rowF_le 10 (2 * (-(y + 1)) + 1)
    clear hR
    go_enter Tryz.func75, Tryz.ntmps75
    go_wp2_with fail
    obtain ⟨Wc, hWc⟩ : ∃ Wc, Wc = (w.alloc (.cells #[.slice ao bs.length c, .int .i64 e] 66)).alloc (.cells #[.slice none 0 0, .int .i64 0] 66) := ⟨_, rfl⟩
    have hb0 : Below w.heap.size w Wc := by rw [hWc]; exact ((Below.refl _ _).alloc (Nat.le_refl _) _).alloc (by simp) _
    have hz0 : Wc.heap.size = w.heap.size + 2 := by rw [hWc]; simp
    obtain ⟨hq0, hp0⟩ : Wc.heap[w.heap.size + 1]? = some (.cells #[.slice none 0 0, .int .i64 0] 66 (0, 0)) ∧ Wc.heap[w.heap.size]? = some (.cells #[.slice ao bs.length c, .int .i64 e] 66 (0, 0)) := by rw [hWc]; exact new2 w _ _
    rw [← hWc]
    obtain ⟨c0, c1⟩ := cell_of_pair hp0
    have Hq := hid hq0
    have Hz := hid hz0
    have hz : w.heap.size + 2 ≤ Wc.heap.size := by omega
    clear hWc hq0 hp0 hz0
    go_region_held3 (fun w' => w'.cell? ⟨w.heap.size, 0, none⟩ = some (.slice ao bs.length c) ∧ w'.cell? ⟨w.heap.size, 1, none⟩ = some (.int .i64 e))
      (first | (go_keep; done) | (rw [k0, k1]; exact ⟨c0, c1⟩) | (rw [m0, m1]; exact ⟨c0, c1⟩))
      (first
        | (go_at_call 48; refine (sevens_any (2 * (-(y + 1)) + 1) _ (by omega) (by omega)).mono ?_; rintro x w1 ⟨vs, rfl, hsn, hb⟩; have hz1 := hb.size; have hbw := hb0.drew.trans (hb.mono (by simp; omega)); have k0 := hb.cell (p := ⟨w.heap.size, 0, none⟩) (by simp; omega); have k1 := hb.cell (p := ⟨w.heap.size, 1, none⟩) (by simp; omega))
        | (go_at_call 47; refine (rlaid_any _ _ (bs, e) (rowF 10 (2 * (-(y + 1)) + 1)) _ (H.out.below hbw) hsn (by dsimp only; omega)).mono ?_; rintro x w2 ⟨v1, rfl, hs1, hb1, hf1⟩; obtain ⟨ao1, c1', rfl⟩ := hs1.form; have m0 := hb1.cell (p := ⟨w.heap.size, 0, none⟩) (by simp at hz1; simp; omega); have m1 := hb1.cell (p := ⟨w.heap.size, 1, none⟩) (by simp at hz1; simp; omega); have hq2 := (hb1.block (w.heap.size + 1) (by simp at hz1; omega)).trans ((hb.block (w.heap.size + 1) (by simp; omega)).trans Hq.out); obtain ⟨d2, d3⟩ := cell_of_pair hq2; have z1 := free_of_block (o := 0) hq2; have z2 := free_of_block (o := 1) hq2; have HQ := hid hq2; clear hq2))
    have HF := hid (rw_finish (w := w) (e := (laidZ (bs, e) (rowF 10 (2 * (-(y + 1)) + 1))).2) HQ.out hs1 (hbw.trans (hb1.mono (by simp at hz1; omega))) (by omega) (fresh_mono hf1 (by first | omega | (simp; omega) | (simp at hz1; omega)) (Nat.le_refl _)))
    clear hs1 hb1 hf1 hb hsn hbw k0 k1 m0 m1
    go_wp2
    refine bodyPost_ret (v := .agg #[.slice ao1 (laidZ (bs, e) (rowF 10 (2 * (-(y + 1)) + 1))).1.length c1', .int .i64 (laidZ (bs, e) (rowF 10 (2 * (-(y + 1)) + 1))).2]) (by simp [results, Tryz.results75, go_sem, d2, d3]) rfl ?_
    rw [HR.out]
    exact HF.out
  · rw [show foldZ y = 2 * y by unfold foldZ; rw [if_neg hn]]
    have hw3 : IntKind.u64.wrap y = y := by rw [IntKind.wrap_u64]; omega
    have hw4 : IntKind.u64.wrap (2 * y) = 2 * y := by rw [IntKind.wrap_u64]; omega
    have hn2 : 0 ≤ y := by omega
    clear hn
    obtain ⟨R, hR⟩ : ∃ R, R = laidZ (bs, e) (rowF 10 (2 * y)) := ⟨_, rfl⟩
    rw [← hR]
    have HR := hid hR
    have hlr := rowF_le 10 (2 * y)
    clear hR
    go_enter Tryz.func75, Tryz.ntmps75
    go_wp2_with fail
    obtain ⟨Wc, hWc⟩ : ∃ Wc, Wc = (w.alloc (.cells #[.slice ao bs.length c, .int .i64 e] 66)).alloc (.cells #[.slice none 0 0, .int .i64 0] 66) := ⟨_, rfl⟩
    have hb0 : Below w.heap.size w Wc := by rw [hWc]; exact ((Below.refl _ _).alloc (Nat.le_refl _) _).alloc (by simp) _
    have hz0 : Wc.heap.size = w.heap.size + 2 := by rw [hWc]; simp
    obtain ⟨hq0, hp0⟩ : Wc.heap[w.heap.size + 1]? = some (.cells #[.slice none 0 0, .int .i64 0] 66 (0, 0)) ∧ Wc.heap[w.heap.size]? = some (.cells #[.slice ao bs.length c, .int .i64 e] 66 (0, 0)) := by rw [hWc]; exact new2 w _ _
    rw [← hWc]
    obtain ⟨c0, c1⟩ := cell_of_pair hp0
    have Hq := hid hq0
    have Hz := hid hz0
    have hz : w.heap.size + 2 ≤ Wc.heap.size := by omega
    clear hWc hq0 hp0 hz0
    go_region_held3 (fun w' => w'.cell? ⟨w.heap.size, 0, none⟩ = some (.slice ao bs.length c) ∧ w'.cell? ⟨w.heap.size, 1, none⟩ = some (.int .i64 e))
      (first | (go_keep; done) | (rw [k0, k1]; exact ⟨c0, c1⟩) | (rw [m0, m1]; exact ⟨c0, c1⟩))
      (first
        | (go_at_call 48; refine (sevens_any (2 * y) _ (by omega) (by omega)).mono ?_; rintro x w1 ⟨vs, rfl, hsn, hb⟩; have hz1 := hb.size; have hbw := hb0.drew.trans (hb.mono (by simp; omega)); have k0 := hb.cell (p := ⟨w.heap.size, 0, none⟩) (by simp; omega); have k1 := hb.cell (p := ⟨w.heap.size, 1, none⟩) (by simp; omega))
        | (go_at_call 47; refine (rlaid_any _ _ (bs, e) (rowF 10 (2 * y)) _ (H.out.below hbw) hsn (by dsimp only; omega)).mono ?_; rintro x w2 ⟨v1, rfl, hs1, hb1, hf1⟩; obtain ⟨ao1, c1', rfl⟩ := hs1.form; have m0 := hb1.cell (p := ⟨w.heap.size, 0, none⟩) (by simp at hz1; simp; omega); have m1 := hb1.cell (p := ⟨w.heap.size, 1, none⟩) (by simp at hz1; simp; omega); have hq2 := (hb1.block (w.heap.size + 1) (by simp at hz1; omega)).trans ((hb.block (w.heap.size + 1) (by simp; omega)).trans Hq.out); obtain ⟨d2, d3⟩ := cell_of_pair hq2; have z1 := free_of_block (o := 0) hq2; have z2 := free_of_block (o := 1) hq2; have HQ := hid hq2; clear hq2))
    have HF := hid (rw_finish (w := w) (e := (laidZ (bs, e) (rowF 10 (2 * y))).2) HQ.out hs1 (hbw.trans (hb1.mono (by simp at hz1; omega))) (by omega) (fresh_mono hf1 (by first | omega | (simp; omega) | (simp at hz1; omega)) (Nat.le_refl _)))
    clear hs1 hb1 hf1 hb hsn hbw k0 k1 m0 m1
    go_wp2
    refine bodyPost_ret (v := .agg #[.slice ao1 (laidZ (bs, e) (rowF 10 (2 * y))).1.length c1', .int .i64 (laidZ (bs, e) (rowF 10 (2 * y))).2]) (by simp [results, Tryz.results75, go_sem, d2, d3]) rfl ?_
    rw [HR.out]
    exact HF.out

end Go.Proofs.YtdnlfacfleemeaaGreat

namespace Go.Proofs.YtdnlfacfleemeaaGreat
open Go.RowKit

theorem fixF_snoc (k : Nat) (v : Int) : fixF (k + 1) v = fixF k v ++ [v / 256 ^ k % 256] := by
  induction k generalizing v with
  | zero => simp [fixF]
  | succ k ih =>
    rw [fixF, ih (v / 256), fixF]
    have e : v / 256 / 256 ^ k = v / 256 ^ (k + 1) := by
      rw [Int.ediv_ediv, if_neg (fun h => absurd h.1 (by omega)), Int.sub_zero, Int.pow_succ, Int.mul_comm]
    rw [e]
    rfl

theorem div_next (v : Int) (k : Nat) : v / 256 ^ k / 256 = v / 256 ^ (k + 1) := by
  have hp : (0 : Int) < 256 ^ k := Int.pow_pos (by omega)
  rw [Int.ediv_ediv, if_neg (fun h => absurd h.1 (by omega)), Int.sub_zero, Int.pow_succ]

end Go.Proofs.YtdnlfacfleemeaaGreat

namespace Go.Proofs.YtdnlfacfleemeaaGreat
open Go.RowKit

theorem fresh_trans {v v1 v0 : Value} {B D : Nat} (h1 : v1 = v0 ∨ ∀ k, v1.ownBlock = some k → B ≤ k ∧ k < D) (h : v = v1 ∨ ∀ k, v.ownBlock = some k → B ≤ k ∧ k < D) : v = v0 ∨ ∀ k, v.ownBlock = some k → B ≤ k ∧ k < D := by
  rcases h with rfl | h
  · exact h1
  · exact .inr h

theorem strBs_take (s : ByteArray) (k : Nat) (h : k < s.size) : (strBs s).take (k + 1) = (strBs s).take k ++ [(s[k].toNat : Int)] := by
  rw [List.take_succ_eq_append_getElem (by rw [strBs_len]; exact h)]
  congr 1
  simp [strBs]
  rfl

theorem laidZ_len (s : List Int × Int) (xs : List Int) : (laidZ s xs).1.length ≤ s.1.length + xs.length := by
  unfold laidZ; split <;> simp
theorem stopZ_len (s : List Int × Int) (e : Int) : (stopZ s e).1.length ≤ s.1.length := by
  unfold stopZ; split <;> simp
theorem rnumZ_len (s : List Int × Int) (v : Int) : (rnumZ s v).1.length ≤ s.1.length + 11 := by
  unfold rnumZ; split
  · have := stopZ_len s 15; omega
  · have := laidZ_len s (rowF 10 v); have := rowF_le 10 v; omega

set_option maxRecDepth 100000 in
set_option maxHeartbeats 800000 in
theorem rtextW_any (v : Value) (t : List Int × Int) (s : ByteArray) (w : World) (h : Sn w v t.1) (hl : t.1.length ≤ 1000000000) (hs : s.size ≤ 1000000000) :
    Calls Tryz.prog 51 #[.agg #[v, .int .i64 t.2], .string s] w fun x w' => RWPost w v (rtextZ t (strBs s)).1 (rtextZ t (strBs s)).2 x w' := by
  obtain ⟨ao, c, rfl⟩ := h.form
  obtain ⟨bs, e⟩ := t
  have H := hid h
  clear h
  dsimp only at hl
  unfold rtextZ
  rw [strBs_len]
  obtain ⟨R, hR⟩ : ∃ R, R = laidZ (rnumZ (bs, e) (s.size : Int)) (strBs s) := ⟨_, rfl⟩
  obtain ⟨R1, hR1⟩ : ∃ R1, R1 = rnumZ (bs, e) (s.size : Int) := ⟨_, rfl⟩
  have hR1l : R1.1.length ≤ bs.length + 11 := by rw [hR1]; exact rnumZ_len _ _
  rw [← hR]
  rw [← hR1] at hR
  have HR := hid hR
  have HR1 := hid hR1
  have hsl := strBs_len s
  have HSL := hid hsl
  clear hR hR1 hsl
  obtain ⟨i0, hi, hz0, hz1, hz2⟩ := info_parts Tryz.info5
  go_enter Tryz.func51, Tryz.ntmps51
  go_wp2
  obtain ⟨Wc, hWc⟩ : ∃ Wc, Wc = (w.alloc (.cells #[.slice ao bs.length c, .int .i64 e] 66)).alloc (.cells #[.slice none 0 0, .int .i64 0] 66) := ⟨_, rfl⟩
  have hb0 : Below w.heap.size w Wc := by rw [hWc]; exact ((Below.refl _ _).alloc (Nat.le_refl _) _).alloc (by simp) _
  have hzc : Wc.heap.size = w.heap.size + 2 := by rw [hWc]; simp
  obtain ⟨hq0, hp0⟩ : Wc.heap[w.heap.size + 1]? = some (.cells #[.slice none 0 0, .int .i64 0] 66 (0, 0)) ∧ Wc.heap[w.heap.size]? = some (.cells #[.slice ao bs.length c, .int .i64 e] 66 (0, 0)) := by rw [hWc]; exact new2 w _ _
  rw [← hWc]
  have Hq := hid hq0
  have Hp := hid hp0
  have hz : w.heap.size + 2 ≤ Wc.heap.size := by omega
  have hz' : Wc.heap.size ≤ w.heap.size + 2 := by omega
  clear hWc hq0 hp0 hzc
  go_loopw [5, 6] (fun b i wr => ∃ (k : Nat), k ≤ s.size ∧ i = .int .i64 k ∧ wr.ownsRow (w.heap.size + 2) 5 1 b ((strBs s).take k).length (B8 ((strBs s).take k)) ∧ Below Wc.heap.size Wc wr)
    (fun _ i _ => s.size - (intOf i).toNat)
  case atStart => exact ⟨0, Nat.zero_le _, rfl, World.ownsRow_nil _ _ _ _, Below.refl _ _⟩
  case round =>
    obtain ⟨k, hk, rfl, hown, hbel⟩ := hrel
    have hzr := hbel.size
    by_cases hlt : k < s.size
    · have hlo := hown.lt
      have hsn := strBs_take s k hlt
      obtain ⟨bb, hbb⟩ : ∃ bb, bb = (strBs s).take k := ⟨_, rfl⟩
      have hlen2 : bb.length ≤ 1000000000 := by rw [hbb, List.length_take]; omega
      rw [← hbb] at hown hsn
      have HS := hid hsn
      clear hbb hsn
      go_wp2_with (at_builtin; refine wpList_append_lies _ rfl _ _ _ rfl (w.heap.size + 2) 5 i0 (.int .u8 0) 1 1 Tryz.underlying39 hi hz0 hz1 hz2 rfl (by omega) _ bb.length (B8 bb) rfl (hown.alloc _) ⟨wr.heap.size, 0, none⟩ 1 1 [.int .u8 (s[k].toNat : Int)] rfl rfl (World.news_of_block (cs := #[.int .u8 (s[k].toNat : Int)]) (t := 5) (fr := (0, 0)) (heap_alloc_new wr _)) (by simp [Value.oneCell']) (by omega) (by unfold maxLen; omega) (by omega) (by simp; omega) (wr.heap.size + 1) (by simp) ?_)
      intro g2 cap w1 hown1 hgrow hat hlt2
      have hb1 : Below Wc.heap.size Wc w1 := (hbel.alloc (by omega) _).grown hgrow (by simp; omega) (fun k hk => by have := (hlo k hk).1; omega)
      have HO := hid hown1
      clear hown1 hgrow hat hown hlo
      go_wp2
      go_roundw
      case rel =>
        refine ⟨k + 1, by omega, by go_num, ?_, hb1⟩
        rw [HS.out]
        have := HO.out
        simpa [B8] using this
      case measure => simp [intOf]; omega
    · obtain rfl : k = s.size := by omega
      rw [List.take_of_length_le (by rw [HSL.out]; omega)] at hown
      have hp1 := (hbel.block _ (by omega)).trans Hp.out
      have hq1 := (hbel.block _ (by omega)).trans Hq.out
      obtain ⟨c0, c1⟩ := cell_of_pair hp1
      have hbw : Below w.heap.size w wr := hb0.trans (hbel.mono (by omega))
      have HS1 := hid (sn_of_owns hown)
      have HSv := hid (H.out.below hbw)
      have HQ := hid hq1
      clear hp1 hq1 hown Hp Hq hbel
      go_wp2_with fail
      refine (rnumW_any _ (bs, e) (s.size : Int) _ HSv.out (by dsimp only; omega) (by omega)).mono ?_
      rw [← HR1.out]
      rintro x w2 ⟨v1, rfl, hs1, hb1, hf1⟩
      obtain ⟨ao1, c1', rfl⟩ := hs1.form
      have HS2 := hid (HS1.out.below hb1)
      have HT := hid hs1
      have hf1' := fresh_mono hf1 (show w.heap.size ≤ wr.heap.size by omega) (Nat.le_refl _)
      have HF1 := hid hf1'
      have hz2 := hb1.size
      have HQ2 := hid ((hb1.block (w.heap.size + 1) (by omega)).trans HQ.out)
      have hbw2 : Below w.heap.size w w2 := hbw.trans (hb1.mono (by omega))
      clear hs1 hb1 hf1 hf1' HS1 HQ hbw
      go_wp2_with fail
      refine (rlaid_any _ _ R1 (strBs s) _ HT.out HS2.out (by rw [HSL.out]; omega)).mono ?_
      rw [← HR.out]
      rintro x w3 ⟨v2, rfl, hs2, hb2, hf2⟩
      obtain ⟨ao2, c2', rfl⟩ := hs2.form
      have hq2 := (hb2.block (w.heap.size + 1) (by omega)).trans HQ2.out
      have HF := hid (rw_finish (w := w) (e := R.2) hq2 hs2 (hbw2.trans (hb2.mono (by omega))) (by omega) (fresh_trans (fresh_mono HF1.out (Nat.le_refl _) hb2.size) (fresh_mono hf2 (by omega) (Nat.le_refl _))))
      obtain ⟨d2, d3⟩ := cell_of_pair hq2
      have z1 := free_of_block (o := 0) hq2
      have z2 := free_of_block (o := 1) hq2
      clear hq2 hs2 hb2 hf2
      go_wp2
      refine bodyPost_ret (v := .agg #[.slice ao2 R.1.length c2', .int .i64 R.2]) (by simp [results, Tryz.results51, go_sem, d2, d3]) rfl ?_
      exact HF.out

end Go.Proofs.YtdnlfacfleemeaaGreat

namespace Go.Proofs.YtdnlfacfleemeaaGreat
open Go.RowKit Go.Lib

theorem vfacts2k {w : World} {r : Nat} {a b : Value} {t : TypeId} (h : w.heap[r]? = some (.cells #[a, b] t (0, 0))) :
    w.cell? ⟨r, 0, none⟩ = some a ∧ w.cell? ⟨r, 1, none⟩ = some b ∧ ∀ o, w.frozen? ⟨r, o, none⟩ = false := by
  refine ⟨?_, ?_, fun o => by simp [World.frozen?, h]⟩ <;> (rw [cell_of_row w _ _ _ _ _ h]; rfl)

/-- What the document's Encode answers of a value. -/
def REncOk (bs : List Int) (w : World) (e : Ending) (w' : World) : Prop := ∃ v, e = .returned (.tuple #[v, .int .i64 0]) ∧ Sn w' v bs ∧ Below w.heap.size w w' ∧ ∀ k, v.ownBlock = some k → w.heap.size ≤ k ∧ k < w'.heap.size

set_option maxRecDepth 100000 in
set_option maxHeartbeats 800000 in
theorem rencode_no (k i : Int) (s : ByteArray) (r : Int) (hr : chk k i s = r) (h0 : r ≠ 0) (w : World) : Calls Tryz.prog 52 #[vl k i s] w (EncNo r w) := by
  have hB0 := hid (below1 w (vo k i s))
  have hc := rcheck_any k i s
  rw [hr] at hc
  have HC := hid hc
  have hb : (r == 0) = false := by simpa using h0
  clear hc hr
  unfold EncNo
  go_enter Tryz.func52, Tryz.ntmps52
  go_wp2_with (
    go_at_call 38
    refine (HC.out _).mono ?_
    rintro e w1 ⟨rfl, hb1⟩
    have H1 := hid (below_on hB0.out hb1)
    clear hb1)
  go_ret2
  exact ⟨rfl, H1.out⟩

/-- Behind a call on the document's Writer: where its block is. -/
theorem renc_step {w w2 w3 : World} {a b c v2 e2 : Value} (h1 : w2.heap[w.heap.size]? = some (.cells #[a, b, c] 51 (0, 0))) (h2 : Below w.heap.size w w2) (hb : Below (w2.alloc (.cells #[v2, e2] 66)).heap.size (w2.alloc (.cells #[v2, e2] 66)) w3) :
    w3.heap[w.heap.size]? = some (.cells #[a, b, c] 51 (0, 0)) ∧ w3.heap[w2.heap.size]? = some (.cells #[v2, e2] 66 (0, 0)) ∧ Below w.heap.size w w3 ∧ w.heap.size < w2.heap.size := by
  have hl := lt_of h1
  exact ⟨blk_of hb ((Below.heap_alloc _ _ _ hl).trans h1) (by simp; omega), blk_of hb (heap_alloc_new w2 _) (by simp), (h2.alloc h2.size _).trans (hb.mono (h2.alloc h2.size _).size), hl⟩

theorem new_blk {w w2 : World} {v : Value} (h : v = .slice none 0 0 ∨ ∀ k, v.ownBlock = some k → w.heap.size ≤ k ∧ k < w2.heap.size) : ∀ k, v.ownBlock = some k → w.heap.size ≤ k ∧ k < w2.heap.size := by
  rcases h with rfl | h
  · intro k hk; simp [Value.ownBlock] at hk
  · exact h

theorem renc_new {w w1 w2 w3 : World} {v2 v3 : Value} {o : Obj} (h1 : w.heap.size ≤ w1.heap.size) (h2 : w1.heap.size ≤ w2.heap.size) (b2 : ∀ k, v2.ownBlock = some k → w1.heap.size ≤ k ∧ k < w2.heap.size) (b3 : v3 = v2 ∨ ∀ k, v3.ownBlock = some k → (w2.alloc o).heap.size ≤ k ∧ k < w3.heap.size) (h3 : w2.heap.size ≤ w3.heap.size) :
    ∀ k, v3.ownBlock = some k → w.heap.size ≤ k ∧ k < w3.heap.size := by
  intro k hk
  rcases b3 with rfl | h
  · have := b2 k hk; omega
  · have := h k hk; simp at this; omega

theorem renc_fin {w2 w3 : World} {v2 v3 : Value} {bs : List Int} {o : Obj} (hs : Sn w3 v3 bs) {w1 : World} (b2 : ∀ k, v2.ownBlock = some k → w1.heap.size ≤ k ∧ k < w2.heap.size) (b3 : v3 = v2 ∨ ∀ k, v3.ownBlock = some k → (w2.alloc o).heap.size ≤ k ∧ k < w3.heap.size) (x y : Value) :
    Sn ((w3.setCell ⟨w2.heap.size, 0, none⟩ x).setCell ⟨w2.heap.size, 1, none⟩ y) v3 bs := by
  refine hs.kept (((Kept.refl (fun k => k = w2.heap.size) w3).setCell (p := ⟨w2.heap.size, 0, none⟩) (fun _ => rfl) x).setCell (p := ⟨w2.heap.size, 1, none⟩) (fun _ => rfl) y) ?_
  intro k hk e
  rcases b3 with rfl | h
  · have := b2 k hk; omega
  · have := (h k hk).1; simp at this; omega

theorem below_set2 {w w3 : World} {q : Nat} (h : Below w.heap.size w w3) (hq : w.heap.size ≤ q) (x y : Value) : Below w.heap.size w ((w3.setCell ⟨q, 0, none⟩ x).setCell ⟨q, 1, none⟩ y) :=
  (h.setCell (p := ⟨q, 0, none⟩) hq x).setCell (p := ⟨q, 1, none⟩) hq y

set_option maxRecDepth 100000 in
set_option maxHeartbeats 1600000 in
theorem rencode_int (i : Int) (h0 : -9223372036854775808 ≤ i) (h1 : i < 9223372036854775808) (w : World) : Calls Tryz.prog 52 #[vl 1 i emp] w (REncOk (encB 1 i emp) w) := by
  have hB0 := hid (below1 w (vo 1 i emp))
  have hR0 := hid (heap_alloc_new w (vo 1 i emp))
  have hc := rcheck_any 1 i emp
  rw [show chk 1 i emp = 0 by simp [chk]] at hc
  have HC := hid hc
  have HZ := hid (show rintZ ([1], 0) i = (encB 1 i emp, 0) by simp [rintZ, laidZ, encB])
  clear hc
  unfold REncOk
  go_enter Tryz.func52, Tryz.ntmps52
  go_wp2_with (first
    | (go_at_call 38
       refine (HC.out _).mono ?_
       rintro e w1 ⟨rfl, hb1⟩
       have g1 := blk_of hb1 hR0.out (by simp)
       obtain ⟨c0, c1, c2, -⟩ := vfacts g1
       have H1 := hid (And.intro g1 (below_on hB0.out hb1))
       clear hb1 g1)
    | (go_at_call 49
       refine (rbyteW_any (.slice none 0 0) ([], 0) 1 _ (sn_nil _) (by simp)).mono ?_
       rintro e w2 ⟨v2, rfl, hs2, hb2, hn2⟩
       rw [show laidZ ([], 0) [1] = ([1], 0) by rfl] at hs2 ⊢
       dsimp only at hs2 ⊢
       have g2 := blk_of hb2 H1.out.1 (lt_of H1.out.1)
       obtain ⟨c0, c1, c2, -⟩ := vfacts g2
       have l2 := lt_of g2
       obtain ⟨ao2, cc2, hv2⟩ := hs2.form
       rw [hv2] at hs2 hn2 ⊢
       have H2 := hid (And.intro g2 (And.intro (below_on H1.out.2 hb2) hs2))
       have Q2 := hid (new_blk hn2)
       have L2 := hid hb2.size
       clear hb2 g2 hs2 hv2 hn2)
    | (go_at_call 75
       refine (rintW_any _ ([1], 0) i _ (H2.out.2.2.below (below1 w2 _)) (by simp) h0 h1).mono ?_
       rintro e w3 ⟨v3, rfl, hs3, hb3, hn3⟩
       rw [HZ.out] at hs3 ⊢
       dsimp only at hs3 ⊢
       have g3 := renc_step H2.out.1 H2.out.2.1 hb3
       obtain ⟨c0, c1, c2, -⟩ := vfacts g3.1
       obtain ⟨d0, d1, fd⟩ := vfacts2k g3.2.1
       have nl := g3.2.2.2
       have ne1 : w2.heap.size ≠ w.heap.size := by omega
       have ne2 : w.heap.size ≠ w2.heap.size := by omega
       obtain ⟨ao3, cc3, hv3⟩ := hs3.form
       rw [hv3] at hs3 hn3 ⊢
       have H3 := hid (And.intro g3 (renc_fin hs3 Q2.out hn3))
       have Q3 := hid (renc_new H1.out.2.size L2.out Q2.out hn3 (by have := lt_of g3.2.1; omega))
       clear hb3 g3 hs3 hv3 hn3))
  go_ret2
  exact ⟨_, rfl, H3.out.2 _ _, below_set2 H3.out.1.2.2.1 (by omega) _ _, fun k hk => (by have := Q3.out k hk; simpa [World.setCell] using this)⟩

set_option maxRecDepth 100000 in
set_option maxHeartbeats 1600000 in
theorem rencode_text (s : ByteArray) (hs : s.size ≤ 256) (w : World) : Calls Tryz.prog 52 #[vl 2 0 s] w (REncOk (encB 2 0 s) w) := by
  have hB0 := hid (below1 w (vo 2 0 s))
  have hR0 := hid (heap_alloc_new w (vo 2 0 s))
  have hc := rcheck_any 2 0 s
  rw [show chk 2 0 s = 0 by simp [chk]; omega] at hc
  have HC := hid hc
  have HZ := hid (show rtextZ ([2], 0) (strBs s) = (encB 2 0 s, 0) by rw [rtextZ, rnumZ, if_neg (by omega)]; simp [laidZ, encB])
  clear hc
  unfold REncOk
  go_enter Tryz.func52, Tryz.ntmps52
  go_wp2_with (first
    | (go_at_call 38
       refine (HC.out _).mono ?_
       rintro e w1 ⟨rfl, hb1⟩
       have g1 := blk_of hb1 hR0.out (by simp)
       obtain ⟨c0, c1, c2, -⟩ := vfacts g1
       have H1 := hid (And.intro g1 (below_on hB0.out hb1))
       clear hb1 g1)
    | (go_at_call 49
       refine (rbyteW_any (.slice none 0 0) ([], 0) 2 _ (sn_nil _) (by simp)).mono ?_
       rintro e w2 ⟨v2, rfl, hs2, hb2, hn2⟩
       rw [show laidZ ([], 0) [2] = ([2], 0) by rfl] at hs2 ⊢
       dsimp only at hs2 ⊢
       have g2 := blk_of hb2 H1.out.1 (lt_of H1.out.1)
       obtain ⟨c0, c1, c2, -⟩ := vfacts g2
       have l2 := lt_of g2
       obtain ⟨ao2, cc2, hv2⟩ := hs2.form
       rw [hv2] at hs2 hn2 ⊢
       have H2 := hid (And.intro g2 (And.intro (below_on H1.out.2 hb2) hs2))
       have Q2 := hid (new_blk hn2)
       have L2 := hid hb2.size
       clear hb2 g2 hs2 hv2 hn2)
    | (go_at_call 51
       refine (rtextW_any _ ([2], 0) s _ (H2.out.2.2.below (below1 w2 _)) (by simp) (by omega)).mono ?_
       rintro e w3 ⟨v3, rfl, hs3, hb3, hn3⟩
       rw [HZ.out] at hs3 ⊢
       dsimp only at hs3 ⊢
       have g3 := renc_step H2.out.1 H2.out.2.1 hb3
       obtain ⟨c0, c1, c2, -⟩ := vfacts g3.1
       obtain ⟨d0, d1, fd⟩ := vfacts2k g3.2.1
       have nl := g3.2.2.2
       have ne1 : w2.heap.size ≠ w.heap.size := by omega
       have ne2 : w.heap.size ≠ w2.heap.size := by omega
       obtain ⟨ao3, cc3, hv3⟩ := hs3.form
       rw [hv3] at hs3 hn3 ⊢
       have H3 := hid (And.intro g3 (renc_fin hs3 Q2.out hn3))
       have Q3 := hid (renc_new H1.out.2.size L2.out Q2.out hn3 (by have := lt_of g3.2.1; omega))
       clear hb3 g3 hs3 hv3 hn3))
  go_ret2
  exact ⟨_, rfl, H3.out.2 _ _, below_set2 H3.out.1.2.2.1 (by omega) _ _, fun k hk => (by have := Q3.out k hk; simpa [World.setCell] using this)⟩

set_option maxRecDepth 100000 in
set_option maxHeartbeats 1600000 in
theorem rencode_none  (w : World) : Calls Tryz.prog 52 #[vl 0 0 emp] w (REncOk (encB 0 0 emp) w) := by
  have hB0 := hid (below1 w (vo 0 0 emp))
  have hR0 := hid (heap_alloc_new w (vo 0 0 emp))
  have hc := rcheck_any 0 0 emp
  rw [show chk 0 0 emp = 0 by simp [chk]] at hc
  have HC := hid hc
  clear hc
  unfold REncOk
  go_enter Tryz.func52, Tryz.ntmps52
  go_wp2_with (first
    | (go_at_call 38
       refine (HC.out _).mono ?_
       rintro e w1 ⟨rfl, hb1⟩
       have g1 := blk_of hb1 hR0.out (by simp)
       obtain ⟨c0, c1, c2, -⟩ := vfacts g1
       have H1 := hid (And.intro g1 (below_on hB0.out hb1))
       clear hb1 g1)
    | (go_at_call 49
       refine (rbyteW_any (.slice none 0 0) ([], 0) 0 _ (sn_nil _) (by simp)).mono ?_
       rintro e w2 ⟨v2, rfl, hs2, hb2, hn2⟩
       rw [show laidZ ([], 0) [0] = ([0], 0) by rfl] at hs2 ⊢
       dsimp only at hs2 ⊢
       have g2 := blk_of hb2 H1.out.1 (lt_of H1.out.1)
       obtain ⟨c0, c1, c2, -⟩ := vfacts g2
       have l2 := lt_of g2
       obtain ⟨ao2, cc2, hv2⟩ := hs2.form
       rw [hv2] at hs2 hn2 ⊢
       have H2 := hid (And.intro g2 (And.intro (below_on H1.out.2 hb2) hs2))
       have Q2 := hid (new_blk hn2)
       have L2 := hid hb2.size
       clear hb2 g2 hs2 hv2 hn2)
)
  go_ret2
  exact ⟨_, rfl, H2.out.2.2.below (below1 w2 _), H2.out.2.1.alloc H2.out.2.1.size _, fun k hk => (by have := Q2.out k hk; have := H1.out.2.size; simp; omega)⟩

theorem rencode_any (k i : Int) (s : ByteArray) (h0 : -9223372036854775808 ≤ i) (h1 : i < 9223372036854775808) (w : World) :
    Calls Tryz.prog 52 #[vl k i s] w fun e w' => (chk k i s ≠ 0 ∧ EncNo (chk k i s) w e w') ∨ (chk k i s = 0 ∧ REncOk (encB k i s) w e w') := by
  by_cases hc : chk k i s = 0
  · refine Calls.mono (R := REncOk (encB k i s) w) ?_ (fun e w' h => .inr ⟨hc, h⟩)
    unfold chk at hc
    split at hc
    · rename_i hk
      subst hk
      split at hc
      · rename_i hs
        subst hs
        exact rencode_int i h0 h1 w
      · omega
    · split at hc
      · rename_i hk
        subst hk
        split at hc
        · rename_i hi
          subst hi
          split at hc
          · omega
          · exact rencode_text s (by omega) w
        · omega
      · split at hc
        · rename_i hk
          obtain ⟨rfl, rfl, rfl⟩ := hk
          exact rencode_none w
        · omega
  · exact Calls.mono (rencode_no k i s _ rfl hc w) (fun e w' h => .inl ⟨hc, h⟩)

end Go.Proofs.YtdnlfacfleemeaaGreat

namespace Go.Proofs.YtdnlfacfleemeaaGreat
open Go.RowKit Go.Lib

theorem wb0 (v : Value) (bs : List Int) (y : Int) (w : World) (h : Sn w v bs) (hl : bs.length ≤ 1000000000) :
    Calls Tryz.prog 49 #[.agg #[v, .int .i64 0], .int .u8 y] w (RWPost w v (bs ++ [y]) 0) := by
  have := rbyteW_any v (bs, 0) y w h hl
  simpa [laidZ] using this

theorem wn0 (v : Value) (bs : List Int) (y : Int) (w : World) (h : Sn w v bs) (hl : bs.length ≤ 1000000000) (h0 : 0 ≤ y) (h1 : y < 9223372036854775808) :
    Calls Tryz.prog 24 #[.agg #[v, .int .i64 0], .int .i64 y] w (RWPost w v (bs ++ rowF 10 y) 0) := by
  have := rnumW_any v (bs, 0) y w h (by simp; omega) h1
  have e : rnumZ (bs, 0) y = (bs ++ rowF 10 y, 0) := by rw [rnumZ, if_neg (by omega)]; simp [laidZ]
  rw [e] at this
  exact this

theorem wt0 (v : Value) (bs : List Int) (s : ByteArray) (w : World) (h : Sn w v bs) (hl : bs.length ≤ 1000000000) (hs : s.size ≤ 1000000000) :
    Calls Tryz.prog 51 #[.agg #[v, .int .i64 0], .string s] w (RWPost w v (bs ++ (rowF 10 (strBs s).length ++ strBs s)) 0) := by
  have := rtextW_any v (bs, 0) s w h hl hs
  have e : rtextZ (bs, 0) (strBs s) = (bs ++ (rowF 10 (strBs s).length ++ strBs s), 0) := by rw [rtextZ, rnumZ, if_neg (by omega)]; simp [laidZ]
  rw [e] at this
  exact this

/-- While the document encodes: the procedure's block, the Writer's, its bytes. -/
structure Ren (w W : World) (nm : ByteArray) (ar : Int) (S : Value) (r : Nat) (v : Value) (bs : List Int) : Prop where
  r0 : W.heap[w.heap.size]? = some (po nm ar S)
  rw : W.heap[r]? = some (.cells #[v, .int .i64 0] 66 (0, 0))
  sn : Sn W v bs
  own : ∀ k, v.ownBlock = some k → k ≠ r
  lt : w.heap.size < r
  hb : Below w.heap.size w W

theorem Ren.below {w W W' : World} {nm : ByteArray} {ar : Int} {S : Value} {r : Nat} {v : Value} {bs : List Int} (h : Ren w W nm ar S r v bs) (hb : Below W.heap.size W W') : Ren w W' nm ar S r v bs :=
  ⟨blk_of hb h.r0 (lt_of h.r0), blk_of hb h.rw (lt_of h.rw), h.sn.below hb, h.own, h.lt, below_on h.hb hb⟩

theorem set2c {w : World} {r : Nat} {a b x y : Value} {t : TypeId} (h : w.heap[r]? = some (.cells #[a, b] t (0, 0))) : ((w.setCell ⟨r, 0, none⟩ x).setCell ⟨r, 1, none⟩ y).heap[r]? = some (.cells #[x, y] t (0, 0)) := by
  simp [World.setCell, Array.getElem?_modify, h]

/-- Behind a call on the Writer, its answer stored. -/
theorem Ren.put {w W w2 : World} {nm : ByteArray} {ar : Int} {S : Value} {r : Nat} {v v2 : Value} {bs bs2 : List Int} (h : Ren w W nm ar S r v bs) (hs : Sn w2 v2 bs2) (hb : Below W.heap.size W w2)
    (hn : v2 = v ∨ ∀ k, v2.ownBlock = some k → W.heap.size ≤ k ∧ k < w2.heap.size) : Ren w ((w2.setCell ⟨r, 0, none⟩ v2).setCell ⟨r, 1, none⟩ (.int .i64 0)) nm ar S r v2 bs2 := by
  have h2 := h.below hb
  have hown : ∀ k, v2.ownBlock = some k → k ≠ r := by
    intro k hk
    rcases hn with rfl | hn
    · exact h.own k hk
    · have := hn k hk; have := lt_of h.rw; omega
  have k2 := ((Kept.refl (fun k => k = r) w2).setCell (p := ⟨r, 0, none⟩) (fun _ => rfl) v2).setCell (p := ⟨r, 1, none⟩) (fun _ => rfl) (.int .i64 0)
  have hlt := h.lt
  exact ⟨(k2.block _ (lt_of h2.r0) (by omega)).trans h2.r0, set2c h2.rw, hs.kept k2 (fun k hk e => hown k hk e), hown, h.lt, below_set2 h2.hb (by omega) _ _⟩

/-- A block that is neither the Writer's. -/
theorem put_other {W w2 : World} {r q : Nat} {o : Obj} (h : W.heap[q]? = some o) (hb : Below W.heap.size W w2) (hq : q ≠ r) (v2 : Value) : ((w2.setCell ⟨r, 0, none⟩ v2).setCell ⟨r, 1, none⟩ (.int .i64 0)).heap[q]? = some o :=
  (Below.heap_setCell _ _ _ _ hq).trans ((Below.heap_setCell _ _ _ _ hq).trans (blk_of hb h (lt_of h)))

/-- The bytes of a field by its letter. -/
def ltB (x : Ins) (c : Int) : List Int :=
  if c = 65 then [x.a] else if c = 66 then [x.b] else if c = 67 then [x.c] else if c = 97 then rowF 10 x.a else if c = 78 then rowF 10 x.n else if c = 86 then valB x else []

theorem ltB_all (x : Ins) (h : 1 ≤ x.op ∧ x.op ≤ 16) : [x.op] ++ (strBs (fdS x.op)).flatMap (ltB x) = insBx x := by
  obtain ⟨o, a, b, c, n, k, i, t⟩ := x
  rcases op_cases o with rfl | rfl | rfl | rfl | rfl | rfl | rfl | rfl | rfl | rfl | rfl | rfl | rfl | rfl | rfl | rfl | h2
  case inr.inr.inr.inr.inr.inr.inr.inr.inr.inr.inr.inr.inr.inr.inr.inr => exact absurd h h2
  all_goals simp [insBx, insB, opN, opF, fldV, Fk.get, fdS, strBs, ltB, valB]

/-- What a good instruction's letters bear. -/
structure Lts (x : Ins) : Prop where
  of : ∀ c ∈ strBs (fdS x.op), c = 65 ∨ c = 66 ∨ c = 67 ∨ c = 97 ∨ c = 78 ∨ c = 86
  a : (65 : Int) ∈ strBs (fdS x.op) ∨ (97 : Int) ∈ strBs (fdS x.op) → 0 ≤ x.a ∧ x.a < 256
  b : (66 : Int) ∈ strBs (fdS x.op) → 0 ≤ x.b ∧ x.b < 256
  c : (67 : Int) ∈ strBs (fdS x.op) → 0 ≤ x.c ∧ x.c < 256
  n : (78 : Int) ∈ strBs (fdS x.op) → 0 ≤ x.n ∧ x.n < 256

theorem lts_of (x : Ins) (h : 1 ≤ x.op ∧ x.op ≤ 16) (hf : ∀ f ∈ opF (opN x.op), 0 ≤ f.get x ∧ f.get x < 256) : Lts x := by
  obtain ⟨o, a, b, c, n, k, i, t⟩ := x
  rcases op_cases o with rfl | rfl | rfl | rfl | rfl | rfl | rfl | rfl | rfl | rfl | rfl | rfl | rfl | rfl | rfl | rfl | h2
  case inr.inr.inr.inr.inr.inr.inr.inr.inr.inr.inr.inr.inr.inr.inr.inr => exact absurd h h2
  all_goals
    simp [opN, opF, Fk.get] at hf
    constructor <;> simp [fdS, strBs, hf]

end Go.Proofs.YtdnlfacfleemeaaGreat
