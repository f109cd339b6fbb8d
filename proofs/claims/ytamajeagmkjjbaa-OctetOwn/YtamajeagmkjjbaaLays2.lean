import Derived.Test.YtamajeagmkjjbaaLays
namespace Go.Proofs.Ytamajeagmkjjbaa
open Go.RowKit

theorem DN.below {w w' : World} (hd : DN w w') (B : Nat) : Below B w w' := by
  obtain ⟨n, rfl⟩ := hd
  exact below_drewN _ _ _

theorem wfixZ_len (s : List Int × Int) (v n : Int) : (wfixZ s v n).1.length ≤ s.1.length + 11 := by
  unfold wfixZ; split
  · split
    · simp
    · rw [List.length_append, fixedB_len]; omega
  · omega
theorem layZ_len (s : List Int × Int) (x : It) : (layZ s x).1.length ≤ s.1.length + 11 + x.s.size := by
  unfold layZ
  split
  · have := wfixZ_len s (x.u % 256) 1; omega
  · split
    · have := wfixZ_len s x.u x.n; omega
    · split
      · unfold wnumZ; split
        · split
          · dsimp only; omega
          · have := rowF_le 10 x.n; rw [List.length_append]; omega
        · omega
      · split
        · unfold wintZ; split
          · have := rowF_le 10 (foldZ x.i); rw [List.length_append]; omega
          · omega
        · split
          · unfold wtextZ; split
            · have := rowF_le 10 (strBs x.s).length; rw [List.length_append, List.length_append, strBs_len]; rw [strBs_len] at this; omega
            · omega
          · omega

theorem sumS_le (its : List It) (k : Nat) : sumS (its.take k) ≤ sumS its := by
  unfold sumS
  conv => rhs; rw [← List.take_append_drop k its]
  rw [List.map_append, List.sum_append]
  omega

theorem it_size_le (its : List It) (k : Nat) (h : k < its.length) : its[k].s.size ≤ sumS its := by
  have h1 := sumS_take its k h
  have h2 := sumS_le its (k + 1)
  omega

set_option maxRecDepth 100000 in
set_option maxHeartbeats 1600000 in
theorem lays_any (v : Value) (its : List It) (w : World) (h : Its w v its) :
    Calls Try.prog 3 #[v] w fun x w' => x = .returned (.bool true) ∧ Below w.heap.size w w' := by
  have HI := hid h
  have HM := hid (much_any v its none 0 0 w h (by omega))
  obtain ⟨ao, cap, hv, hc, hcm, hok, hcells⟩ := h
  subst hv
  have Hcl := hid hcells
  have Hok := hid hok
  clear hcells hok
  go_enter Try.func3, Try.ntmps3
  go_wp2_with fail
  refine HM.out.mono ?_
  rintro x w' ⟨hw, r, rfl, hr⟩
  subst hw
  cases r with
  | true =>
    clear hr
    go_wp2_with fail
    refine (known_any _).mono ?_
    rintro x w1 ⟨rfl, hb⟩
    have HB := hid hb
    clear hb
    go_wp2
    go_ret
    exact ⟨rfl, HB.out⟩
  | false =>
    obtain ⟨hn, _, hsum⟩ := hr rfl
    clear hr HM
    go_wp2
    obtain ⟨W, hW⟩ : ∃ W, W = (w'.alloc (.cells #[.slice none 0 0, .int .i64 0] 29)).alloc (.cells #[.slice none 0 0, .int .i64 0] 31) := ⟨_, rfl⟩
    have hL0 : LS w' W w'.heap.size (w'.heap.size + 1) none none 0 ([], 0) ([], 0) := by
      rw [hW]
      refine ⟨(wr_new _ w' (Nat.le_refl _)).kept ((Kept.refl (fun _ => False) _).alloc _) (fun h => h) (fun _ _ h => h), (new2 w' _ _).1, sn_nil _, ((Below.refl _ _).alloc (Nat.le_refl _) _).alloc (by simp) _, ⟨Nat.le_refl _, by omega, by omega, by simp; omega, by simp⟩, (fun k h => by cases h), (fun k h => by cases h)⟩
    rw [← hW]
    have HL := hid hL0
    clear hL0 hW
    go_loopw [5] (fun i wr => ∃ (k : Nat) (g : Option Nat) (ao' : Option Addr) (c' : Nat) (s : List Int × Int), k ≤ its.length ∧ i = .int .i64 k ∧ LS w' wr w'.heap.size (w'.heap.size + 1) g ao' c' s s ∧ s.1.length ≤ 11 * k + sumS (its.take k))
      (fun i _ => its.length - (intOf i).toNat)
    case atStart => exact ⟨0, none, none, 0, ([], 0), Nat.zero_le _, rfl, HL.out, by simp⟩
    case round =>
      obtain ⟨k, g, ao', c', s, hk, rfl, hls, hslen⟩ := hrel
      by_cases hlt : k < its.length
      · obtain ⟨b, off, rfl, hj⟩ := Hcl.out (by intro e; subst e; simp at hlt)
        have hbl : b < w'.heap.size := World.block_lt_of_cell? _ _ (hj k its[k] (by simp [hlt])).1
        have hxok := Hok.out its[k] (List.getElem_mem hlt)
        have hxs := it_size_le its k hlt
        have hst := sumS_take its k hlt
        have hsl := sumS_le its k
        have hcx := hj k its[k] (by simp [hlt])
        obtain ⟨x, hxe⟩ : ∃ x, x = its[k] := ⟨_, rfl⟩
        rw [← hxe] at hcx hxok hxs hst
        have hl1 := layZ_len s x
        obtain ⟨T, hT⟩ : ∃ T, T = layZ s x := ⟨_, rfl⟩
        have HT1 := hid hT.symm
        have HT2 := hid (show rlayZ s x = T by rw [hT, lay_eq])
        rw [← hT] at hl1
        clear hT
        have HX := hid hxok
        have HT := hid hst
        have hIt : ∀ wx : World, Below w'.heap.size w' wx → It.at wx b (off + k * 5) x := fun wx hb => by
          obtain ⟨c0, c1, c2, c3, c4⟩ := hcx
          exact ⟨(hb.cell (World.block_lt_of_cell? _ _ c0)).trans c0, (hb.cell (World.block_lt_of_cell? _ _ c1)).trans c1, (hb.cell (World.block_lt_of_cell? _ _ c2)).trans c2, (hb.cell (World.block_lt_of_cell? _ _ c3)).trans c3, (hb.cell (World.block_lt_of_cell? _ _ c4)).trans c4⟩
        have HIt := hid hIt
        obtain ⟨c0, c1, c2, c3, c4⟩ := hIt wr hls.bel
        have HLS := hid hls
        clear hIt hcx hj hxok hst hls hxe
        go_wp2_with fail
        refine (lay_any w'.heap.size _ g s.1 s.2 _ x HLS.out.wr (by have := HLS.out.bel.size; omega) HX.out (by omega) (by omega)).mono ?_
        rintro y w1 ⟨rfl, hst⟩
        rw [HT1.out] at hst
        obtain ⟨g1, hls1⟩ := LS.lay HLS.out (s2 := T) hst
        clear hst HLS c0 c1 c2 c3 c4
        obtain ⟨c0, c1, c2, c3, c4⟩ := HIt.out w1 hls1.bel
        obtain ⟨d0, d1⟩ := cell_of_pair hls1.xb
        have HL1 := hid hls1
        have hz1 := hls1.ge.2.2.2
        have hz1b := hls1.ge.2.2.2.2
        clear hls1
        go_wp2_with fail
        go_region_with (go_at_call 12; refine (rlay_any _ s x _ HL1.out.sn.drew HX.out (by omega) (by omega)).mono ?_; rw [HT2.out]; rintro y w2 ⟨v2, rfl, hs2, hb2, hf2⟩; obtain ⟨ao2, c2', rfl⟩ := hs2.form; have hq2 := (hb2.block (w'.heap.size + 1) (by simp; omega)).trans HL1.out.xb; obtain ⟨e0, e1⟩ := cell_of_pair hq2; have z0 := free_of_block (o := 0) hq2; have z1 := free_of_block (o := 1) hq2; have HS2 := hid hs2; have HB2 := hid hb2; have HF2 := hid hf2; clear hs2 hb2 hf2 hq2)
        all_goals
          have hl3 := LS.laid HL1.out (t2 := T) ((Below.refl _ w1).drew.trans HB2.out) HS2.out HF2.out
          obtain ⟨w3, hw3⟩ : ∃ w3, w3 = (w2.setCell ⟨w'.heap.size + 1, 0, none⟩ (.slice ao2 T.1.length c2')).setCell ⟨w'.heap.size + 1, 1, none⟩ (.int .i64 T.2) := ⟨_, rfl⟩
          rw [← hw3] at hl3
          rw [← hw3]
          obtain ⟨d0', d1'⟩ := cell_of_pair hl3.xb
          have HL3 := hid hl3
          have hz3 := hl3.ge.2.2.2
          have hz3b := hl3.ge.2.2.2.2
          clear hl3 hw3 HL1 HB2 HS2 HF2 e0 e1 z0 z1 d0 d1 c0 c1 c2 c3 c4
          go_wp2_with fail
          go_region_held3 (fun wx => wx.cell? ⟨w'.heap.size + 1, 0, none⟩ = some (.slice ao2 T.1.length c2') ∧ wx.cell? ⟨w'.heap.size + 1, 1, none⟩ = some (.int .i64 T.2))
            (first | (go_keep; done) | (rw [k0, k1]; exact ⟨d0', d1'⟩) | (rw [m0, m1, k0, k1]; exact ⟨d0', d1'⟩))
            (first
              | (go_at_call 14; refine (wdata_any _ _ g1 T.1 T.2 _ (wr_drew HL3.out.wr) (by omega)).mono ?_; rintro y w4 ⟨rfl, ho4, hb4⟩; have k0 := hb4.cell (p := ⟨w'.heap.size + 1, 0, none⟩) (by simp; omega); have k1 := hb4.cell (p := ⟨w'.heap.size + 1, 1, none⟩) (by simp; omega); have HL4 := hid (HL3.out.still ((Below.refl _ w3).drew.trans hb4)); have HO4 := hid (ho4.sl (by omega)); clear ho4)
              | (go_at_call 13; refine (bytes_any _ _ T.1 T.1 _ HO4.out HL4.out.sn.1 (by omega)).mono ?_; rintro y w5 ⟨hd5, rfl⟩; rw [show decide (T.1 = T.1) = true by simp]; have m0 := hd5.cell ⟨w'.heap.size + 1, 0, none⟩; have m1 := hd5.cell ⟨w'.heap.size + 1, 1, none⟩; have HL5 := hid (HL4.out.still (hd5.below _)); clear hd5)
              | (go_at_call 15; refine (werr_any _ _ g1 T.1 T.2 _ HL5.out.wr).mono ?_; rintro y w6 ⟨rfl, hw6⟩; subst hw6))
          go_wp2
          go_roundw
          case rel => first | exact ⟨k + 1, g1, ao2, c2', T, by omega, by go_num, HL5.out, by rw [HT.out]; omega⟩ | ((repeat apply Exists.intro); exact ⟨⟨k + 1, g1, ao2, c2', T, by omega, by go_num, HL5.out, by rw [HT.out]; omega⟩, rfl⟩)
          case measure => simp [intOf]; omega
      · obtain rfl : k = its.length := by omega
        have HB := hid hls.bel
        clear hls
        go_wp2_with fail
        refine (known_any _).mono ?_
        rintro x w1 ⟨rfl, hb⟩
        have HB2 := hid (HB.out.trans (hb.mono HB.out.size))
        clear hb HB
        go_wp2
        go_ret
        exact ⟨rfl, HB2.out⟩

end Go.Proofs.Ytamajeagmkjjbaa
