import Derived.Test.YtamajeagmkjjbaaRef4
namespace Go.Proofs.Ytamajeagmkjjbaa
open Go.RowKit

theorem fixF_snoc (k : Nat) (v : Int) : fixF (k + 1) v = fixF k v ++ [v / 256 ^ k % 256] := by
  induction k generalizing v with
  | zero => simp [fixF]
  | succ k ih =>
    rw [fixF, ih (v / 256), fixF]
    have e : v / 256 / 256 ^ k = v / 256 ^ (k + 1) := by
      rw [Int.ediv_ediv, if_neg (fun h => absurd h.1 (by omega)), Int.sub_zero, Int.pow_succ, Int.mul_comm]
    rw [e]
    rfl

theorem div_next (v : Int) (k : Nat) : v / 256 ^ k / 256 = v / 256 ^ (k + 1) := by
  have hp : (0 : Int) < 256 ^ k := Int.pow_pos (by omega)
  rw [Int.ediv_ediv, if_neg (fun h => absurd h.1 (by omega)), Int.sub_zero, Int.pow_succ]

set_option maxRecDepth 100000 in
set_option maxHeartbeats 800000 in
theorem rfixW_any (v : Value) (s : List Int × Int) (y n : Int) (w : World) (h : Sn w v s.1) (hl : s.1.length ≤ 2000000000) (hy0 : 0 ≤ y) (hy1 : y < 18446744073709551616) :
    Calls Try.prog 38 #[.agg #[v, .int .i64 s.2], .int .u64 y, .int .i64 n] w fun x w' => RWPost w v (rfixZ s y n).1 (rfixZ s y n).2 x w' := by
  obtain ⟨ao, c, rfl⟩ := h.form
  obtain ⟨bs, e⟩ := s
  have H := hid h
  clear h
  dsimp only at hl
  unfold rfixZ
  by_cases hn : n < 0 ∨ 8 < n
  · rw [if_pos hn]
    obtain ⟨R, hR⟩ : ∃ R, R = stopZ (bs, e) 1 := ⟨_, rfl⟩
    rw [← hR]
    have HR := hid hR
    clear hR
    rcases hn with hn | hn
    · go_enter Try.func38, Try.ntmps38
      go_wp2_with fail
      refine (rstop_any _ (bs, e) 1 _ ((H.out.alloc _).alloc _)).mono ?_
      rw [← HR.out]
      rintro x w1 ⟨v1, rfl, hs1, hb1, hf1⟩
      obtain ⟨ao1, c1, rfl⟩ := hs1.form
      have hq : w1.heap[w.heap.size + 1]? = some (.cells #[.slice none 0 0, .int .i64 0] 31 (0, 0)) := (hb1.block _ (by simp)).trans (new2 w _ _).1
      have HF := hid (rw_finish (e := R.2) hq hs1 ((((Below.refl _ _).alloc (Nat.le_refl _) _).alloc (by simp) _).trans (hb1.mono (by simp; omega))) (by omega) (fresh_mono hf1 (by first | omega | (simp; omega) | (simp at hz1; omega)) (Nat.le_refl _)))
      obtain ⟨d2, d3⟩ := cell_of_pair hq
      have z1 := free_of_block (o := 0) hq
      have z2 := free_of_block (o := 1) hq
      clear hq hs1 hb1 hf1 H HR
      go_wp2
      refine bodyPost_ret (v := .agg #[.slice ao1 R.1.length c1, .int .i64 R.2]) (by simp [results, Try.results38, go_sem, d2, d3]) rfl ?_
      exact HF.out
    · have hn2 : ¬ n < 0 := by omega
      go_enter Try.func38, Try.ntmps38
      go_wp2_with fail
      refine (rstop_any _ (bs, e) 1 _ ((H.out.alloc _).alloc _)).mono ?_
      rw [← HR.out]
      rintro x w1 ⟨v1, rfl, hs1, hb1, hf1⟩
      obtain ⟨ao1, c1, rfl⟩ := hs1.form
      have hq : w1.heap[w.heap.size + 1]? = some (.cells #[.slice none 0 0, .int .i64 0] 31 (0, 0)) := (hb1.block _ (by simp)).trans (new2 w _ _).1
      have HF := hid (rw_finish (e := R.2) hq hs1 ((((Below.refl _ _).alloc (Nat.le_refl _) _).alloc (by simp) _).trans (hb1.mono (by simp; omega))) (by omega) (fresh_mono hf1 (by first | omega | (simp; omega) | (simp at hz1; omega)) (Nat.le_refl _)))
      obtain ⟨d2, d3⟩ := cell_of_pair hq
      have z1 := free_of_block (o := 0) hq
      have z2 := free_of_block (o := 1) hq
      clear hq hs1 hb1 hf1 H HR
      go_wp2
      refine bodyPost_ret (v := .agg #[.slice ao1 R.1.length c1, .int .i64 R.2]) (by simp [results, Try.results38, go_sem, d2, d3]) rfl ?_
      exact HF.out
  · rw [if_neg hn]
    obtain ⟨N, rfl⟩ := Int.eq_ofNat_of_zero_le (show 0 ≤ n by omega)
    have hN : N ≤ 8 := by omega
    rw [Int.toNat_natCast]
    obtain ⟨R, hR⟩ : ∃ R, R = laidZ (bs, e) (fixF N y) := ⟨_, rfl⟩
    rw [← hR]
    have HR := hid hR
    clear hR hn
    obtain ⟨i0, hi, hz0, hz1, hz2⟩ := info_parts Try.info5
    go_enter Try.func38, Try.ntmps38
    go_wp2
    obtain ⟨Wc, hWc⟩ : ∃ Wc, Wc = (w.alloc (.cells #[.slice ao bs.length c, .int .i64 e] 31)).alloc (.cells #[.slice none 0 0, .int .i64 0] 31) := ⟨_, rfl⟩
    have hb0 : Below w.heap.size w Wc := by rw [hWc]; exact ((Below.refl _ _).alloc (Nat.le_refl _) _).alloc (by simp) _
    have hzc : Wc.heap.size = w.heap.size + 2 := by rw [hWc]; simp
    obtain ⟨hq0, hp0⟩ : Wc.heap[w.heap.size + 1]? = some (.cells #[.slice none 0 0, .int .i64 0] 31 (0, 0)) ∧ Wc.heap[w.heap.size]? = some (.cells #[.slice ao bs.length c, .int .i64 e] 31 (0, 0)) := by rw [hWc]; exact new2 w _ _
    rw [← hWc]
    have Hq := hid hq0
    have Hp := hid hp0
    have hz : w.heap.size + 2 ≤ Wc.heap.size := by omega
    have hz' : Wc.heap.size ≤ w.heap.size + 2 := by omega
    clear hWc hq0 hp0 hzc
    go_loopw [1, 7, 8] (fun t b i wr => ∃ (k : Nat) (y' : Int), k ≤ N ∧ i = .int .i64 k ∧ t = .int .u64 y' ∧ 0 ≤ y' ∧ y' < 18446744073709551616 ∧ Hid (y' = y / 256 ^ k) ∧ wr.ownsRow (w.heap.size + 2) 5 1 b (fixF k y).length (B8 (fixF k y)) ∧ Below Wc.heap.size Wc wr)
      (fun _ _ i _ => N - (intOf i).toNat)
    case atStart => exact ⟨0, y, Nat.zero_le _, rfl, rfl, hy0, hy1, hid (by simp), World.ownsRow_nil _ _ _ _, Below.refl _ _⟩
    case round =>
      obtain ⟨k, y', hk, rfl, rfl, q0, q1, hy, hown, hbel⟩ := hrel
      have hzr := hbel.size
      by_cases hlt : k < N
      · have hlo := hown.lt
        have hlen := fixF_len k y
        have hsn := fixF_snoc k y
        have hdn := div_next y k
        rw [← hy.out] at hsn hdn
        have a2 : IntKind.u8.wrap (y' % 256) = y' % 256 := by rw [IntKind.wrap_u8]; omega
        obtain ⟨bb, hbb⟩ : ∃ bb, bb = fixF k y := ⟨_, rfl⟩
        rw [← hbb] at hown hsn hlen
        have HS := hid hsn
        have HD := hid hdn
        have hlen2 : bb.length ≤ 8 := by omega
        clear hbb hsn hdn hlen
        go_wp2_with (at_builtin; refine wpList_append_lies _ rfl _ _ _ rfl (w.heap.size + 2) 5 i0 (.int .u8 0) 1 1 Try.underlying26 hi hz0 hz1 hz2 rfl (by omega) _ bb.length (B8 bb) rfl (hown.alloc _) ⟨wr.heap.size, 0, none⟩ 1 1 [.int .u8 (y' % 256)] rfl rfl (World.news_of_block (cs := #[.int .u8 (y' % 256)]) (t := 5) (fr := (0, 0)) (heap_alloc_new wr _)) (by simp [Value.oneCell']) (by omega) (by unfold maxLen; omega) (by omega) (by simp; omega) (wr.heap.size + 1) (by simp) ?_)
        intro g2 cap w1 hown1 hgrow hat hlt2
        have hb1 : Below Wc.heap.size Wc w1 := (hbel.alloc (by omega) _).grown hgrow (by simp; omega) (fun k hk => by have := (hlo k hk).1; omega)
        have HO := hid hown1
        clear hown1 hgrow hat hown hlo
        go_wp2
        go_roundw
        case rel =>
          refine ⟨k + 1, y' / 256, by omega, by go_num, by first | rfl | go_num, by omega, by omega, hid HD.out, ?_, hb1⟩
          rw [HS.out]
          have := HO.out
          simpa [B8] using this
        case measure => simp [intOf]; omega
      · obtain rfl : k = N := by omega
        have hp1 := (hbel.block _ (by omega)).trans Hp.out
        have hq1 := (hbel.block _ (by omega)).trans Hq.out
        obtain ⟨c0, c1⟩ := cell_of_pair hp1
        have hbw : Below w.heap.size w wr := hb0.trans (hbel.mono (by omega))
        have HS1 := hid (sn_of_owns hown)
        have HSv := hid (H.out.below hbw)
        have HQ := hid hq1
        have hfl := fixF_len k y
        have hfl2 : (fixF k y).length ≤ 8 := by omega
        clear hp1 hq1 hfl hown Hp Hq hbel
        go_wp2_with fail
        refine (rlaid_any _ _ (bs, e) (fixF k y) _ HSv.out HS1.out (by dsimp only; omega)).mono ?_
        rw [← HR.out]
        rintro x w2 ⟨v1, rfl, hs1, hb1, hf1⟩
        obtain ⟨ao1, c1', rfl⟩ := hs1.form
        have hq2 := (hb1.block (w.heap.size + 1) (by omega)).trans HQ.out
        have HF := hid (rw_finish (w := w) (e := R.2) hq2 hs1 (hbw.trans (hb1.mono (by omega))) (by omega) (fresh_mono hf1 (by first | omega | (simp; omega) | (simp at hz1; omega)) (Nat.le_refl _)))
        obtain ⟨d2, d3⟩ := cell_of_pair hq2
        have z1 := free_of_block (o := 0) hq2
        have z2 := free_of_block (o := 1) hq2
        clear hq2 hs1 hb1 hf1
        go_wp2
        refine bodyPost_ret (v := .agg #[.slice ao1 R.1.length c1', .int .i64 R.2]) (by simp [results, Try.results38, go_sem, d2, d3]) rfl ?_
        exact HF.out

end Go.Proofs.Ytamajeagmkjjbaa
