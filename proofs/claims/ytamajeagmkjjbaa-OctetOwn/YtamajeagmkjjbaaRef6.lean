import Derived.Test.YtamajeagmkjjbaaRef5
namespace Go.Proofs.Ytamajeagmkjjbaa
open Go.RowKit

theorem fresh_trans {v v1 v0 : Value} {B D : Nat} (h1 : v1 = v0 ∨ ∀ k, v1.ownBlock = some k → B ≤ k ∧ k < D) (h : v = v1 ∨ ∀ k, v.ownBlock = some k → B ≤ k ∧ k < D) : v = v0 ∨ ∀ k, v.ownBlock = some k → B ≤ k ∧ k < D := by
  rcases h with rfl | h
  · exact h1
  · exact .inr h

theorem strBs_take (s : ByteArray) (k : Nat) (h : k < s.size) : (strBs s).take (k + 1) = (strBs s).take k ++ [(s[k].toNat : Int)] := by
  rw [List.take_succ_eq_append_getElem (by rw [strBs_len]; exact h)]
  congr 1
  simp [strBs]
  rfl

theorem laidZ_len (s : List Int × Int) (xs : List Int) : (laidZ s xs).1.length ≤ s.1.length + xs.length := by
  unfold laidZ; split <;> simp
theorem stopZ_len (s : List Int × Int) (e : Int) : (stopZ s e).1.length ≤ s.1.length := by
  unfold stopZ; split <;> simp
theorem rnumZ_len (s : List Int × Int) (v : Int) : (rnumZ s v).1.length ≤ s.1.length + 11 := by
  unfold rnumZ; split
  · have := stopZ_len s 15; omega
  · have := laidZ_len s (rowF 10 v); have := rowF_le 10 v; omega

set_option maxRecDepth 100000 in
set_option maxHeartbeats 800000 in
theorem rtextW_any (v : Value) (t : List Int × Int) (s : ByteArray) (w : World) (h : Sn w v t.1) (hl : t.1.length ≤ 1000000000) (hs : s.size ≤ 1000000000) :
    Calls Try.prog 41 #[.agg #[v, .int .i64 t.2], .string s] w fun x w' => RWPost w v (rtextZ t (strBs s)).1 (rtextZ t (strBs s)).2 x w' := by
  obtain ⟨ao, c, rfl⟩ := h.form
  obtain ⟨bs, e⟩ := t
  have H := hid h
  clear h
  dsimp only at hl
  unfold rtextZ
  rw [strBs_len]
  obtain ⟨R, hR⟩ : ∃ R, R = laidZ (rnumZ (bs, e) (s.size : Int)) (strBs s) := ⟨_, rfl⟩
  obtain ⟨R1, hR1⟩ : ∃ R1, R1 = rnumZ (bs, e) (s.size : Int) := ⟨_, rfl⟩
  have hR1l : R1.1.length ≤ bs.length + 11 := by rw [hR1]; exact rnumZ_len _ _
  rw [← hR]
  rw [← hR1] at hR
  have HR := hid hR
  have HR1 := hid hR1
  have hsl := strBs_len s
  have HSL := hid hsl
  clear hR hR1 hsl
  obtain ⟨i0, hi, hz0, hz1, hz2⟩ := info_parts Try.info5
  go_enter Try.func41, Try.ntmps41
  go_wp2
  obtain ⟨Wc, hWc⟩ : ∃ Wc, Wc = (w.alloc (.cells #[.slice ao bs.length c, .int .i64 e] 31)).alloc (.cells #[.slice none 0 0, .int .i64 0] 31) := ⟨_, rfl⟩
  have hb0 : Below w.heap.size w Wc := by rw [hWc]; exact ((Below.refl _ _).alloc (Nat.le_refl _) _).alloc (by simp) _
  have hzc : Wc.heap.size = w.heap.size + 2 := by rw [hWc]; simp
  obtain ⟨hq0, hp0⟩ : Wc.heap[w.heap.size + 1]? = some (.cells #[.slice none 0 0, .int .i64 0] 31 (0, 0)) ∧ Wc.heap[w.heap.size]? = some (.cells #[.slice ao bs.length c, .int .i64 e] 31 (0, 0)) := by rw [hWc]; exact new2 w _ _
  rw [← hWc]
  have Hq := hid hq0
  have Hp := hid hp0
  have hz : w.heap.size + 2 ≤ Wc.heap.size := by omega
  have hz' : Wc.heap.size ≤ w.heap.size + 2 := by omega
  clear hWc hq0 hp0 hzc
  go_loopw [5, 6] (fun b i wr => ∃ (k : Nat), k ≤ s.size ∧ i = .int .i64 k ∧ wr.ownsRow (w.heap.size + 2) 5 1 b ((strBs s).take k).length (B8 ((strBs s).take k)) ∧ Below Wc.heap.size Wc wr)
    (fun _ i _ => s.size - (intOf i).toNat)
  case atStart => exact ⟨0, Nat.zero_le _, rfl, World.ownsRow_nil _ _ _ _, Below.refl _ _⟩
  case round =>
    obtain ⟨k, hk, rfl, hown, hbel⟩ := hrel
    have hzr := hbel.size
    by_cases hlt : k < s.size
    · have hlo := hown.lt
      have hsn := strBs_take s k hlt
      obtain ⟨bb, hbb⟩ : ∃ bb, bb = (strBs s).take k := ⟨_, rfl⟩
      have hlen2 : bb.length ≤ 1000000000 := by rw [hbb, List.length_take]; omega
      rw [← hbb] at hown hsn
      have HS := hid hsn
      clear hbb hsn
      go_wp2_with (at_builtin; refine wpList_append_lies _ rfl _ _ _ rfl (w.heap.size + 2) 5 i0 (.int .u8 0) 1 1 Try.underlying26 hi hz0 hz1 hz2 rfl (by omega) _ bb.length (B8 bb) rfl (hown.alloc _) ⟨wr.heap.size, 0, none⟩ 1 1 [.int .u8 (s[k].toNat : Int)] rfl rfl (World.news_of_block (cs := #[.int .u8 (s[k].toNat : Int)]) (t := 5) (fr := (0, 0)) (heap_alloc_new wr _)) (by simp [Value.oneCell']) (by omega) (by unfold maxLen; omega) (by omega) (by simp; omega) (wr.heap.size + 1) (by simp) ?_)
      intro g2 cap w1 hown1 hgrow hat hlt2
      have hb1 : Below Wc.heap.size Wc w1 := (hbel.alloc (by omega) _).grown hgrow (by simp; omega) (fun k hk => by have := (hlo k hk).1; omega)
      have HO := hid hown1
      clear hown1 hgrow hat hown hlo
      go_wp2
      go_roundw
      case rel =>
        refine ⟨k + 1, by omega, by go_num, ?_, hb1⟩
        rw [HS.out]
        have := HO.out
        simpa [B8] using this
      case measure => simp [intOf]; omega
    · obtain rfl : k = s.size := by omega
      rw [List.take_of_length_le (by rw [HSL.out]; omega)] at hown
      have hp1 := (hbel.block _ (by omega)).trans Hp.out
      have hq1 := (hbel.block _ (by omega)).trans Hq.out
      obtain ⟨c0, c1⟩ := cell_of_pair hp1
      have hbw : Below w.heap.size w wr := hb0.trans (hbel.mono (by omega))
      have HS1 := hid (sn_of_owns hown)
      have HSv := hid (H.out.below hbw)
      have HQ := hid hq1
      clear hp1 hq1 hown Hp Hq hbel
      go_wp2_with fail
      refine (rnumW_any _ (bs, e) (s.size : Int) _ HSv.out (by dsimp only; omega) (by omega)).mono ?_
      rw [← HR1.out]
      rintro x w2 ⟨v1, rfl, hs1, hb1, hf1⟩
      obtain ⟨ao1, c1', rfl⟩ := hs1.form
      have HS2 := hid (HS1.out.below hb1)
      have HT := hid hs1
      have hf1' := fresh_mono hf1 (show w.heap.size ≤ wr.heap.size by omega) (Nat.le_refl _)
      have HF1 := hid hf1'
      have hz2 := hb1.size
      have HQ2 := hid ((hb1.block (w.heap.size + 1) (by omega)).trans HQ.out)
      have hbw2 : Below w.heap.size w w2 := hbw.trans (hb1.mono (by omega))
      clear hs1 hb1 hf1 hf1' HS1 HQ hbw
      go_wp2_with fail
      refine (rlaid_any _ _ R1 (strBs s) _ HT.out HS2.out (by rw [HSL.out]; omega)).mono ?_
      rw [← HR.out]
      rintro x w3 ⟨v2, rfl, hs2, hb2, hf2⟩
      obtain ⟨ao2, c2', rfl⟩ := hs2.form
      have hq2 := (hb2.block (w.heap.size + 1) (by omega)).trans HQ2.out
      have HF := hid (rw_finish (w := w) (e := R.2) hq2 hs2 (hbw2.trans (hb2.mono (by omega))) (by omega) (fresh_trans (fresh_mono HF1.out (Nat.le_refl _) hb2.size) (fresh_mono hf2 (by omega) (Nat.le_refl _))))
      obtain ⟨d2, d3⟩ := cell_of_pair hq2
      have z1 := free_of_block (o := 0) hq2
      have z2 := free_of_block (o := 1) hq2
      clear hq2 hs2 hb2 hf2
      go_wp2
      refine bodyPost_ret (v := .agg #[.slice ao2 R.1.length c2', .int .i64 R.2]) (by simp [results, Try.results41, go_sem, d2, d3]) rfl ?_
      exact HF.out

end Go.Proofs.Ytamajeagmkjjbaa
