import Derived.Test.YtdnlfacfleemeaaGreatK41
import Derived.Deep.Cut
namespace Go.Proofs.YtdnlfacfleemeaaGreat
open Go.RowKit Go.Lib

set_option maxRecDepth 100000 in
set_option maxHeartbeats 16000000 in
/-- The law, where far is above the limit. -/
theorem dec_above (v : Value) (bs : List Int) (at0 by0 far : Int) (w : World) (h : Sn w v bs) (ho : Oct bs) (hby : 0 ≤ by0 ∧ by0 < 256) (hl : (bs.length : Int) ≤ 200000) (hf : 65540 < far) :
    Calls Tryz.prog 5 #[v, .int .i64 at0, .int .u8 by0, .int .i64 far] w fun x w' => x = .returned (.bool true) ∧ Below w.heap.size w w' := by
  have h := h.1
  have HBY := hid hby
  have HO := hid ho
  have HS0 := hid h
  obtain ⟨ao, cc, rfl, hc, hx⟩ := h
  have hd0 : decide ((200000 : Int) < (bs.length : Int)) = false := by simp; omega
  have HB00 := hid (Below.refl w.heap.size w)
  have hf1 : 65530 ≤ far := by omega
  have hf2 : decide (far ≤ 65540) = false := by simp; omega
  clear hf
  clear ho hc hx hby
  go_enter Tryz.func5, Tryz.ntmps5
  go_upto_region 6 with fail
  refine cutG (fun W => Below w.heap.size w W ∧ Sl W (.slice ao bs.length cc) bs) ⟨HB00.out, HS0.out⟩ ?_
  rintro w0 ⟨HB0, HS⟩
  have HB0 := hid HB0
  have HS := hid HS
  have HX := hid (sl_cells HS.out)
  clear HB00 HS0 hf1 hf2 hd0
  obtain ⟨i0, hi, hz0, hz1, hz2⟩ := info_parts Tryz.info5
  have hsz : (Tryz.prog.info? 5).map (·.size) = some 1 := by rw [hi]; simp [hz1]
  obtain ⟨N, hN⟩ : ∃ N, N = bs.length + 5 := ⟨_, rfl⟩
  have HN := hid hN
  have hNa : bs.length + 5 ≤ N := by omega
  have hNb : N ≤ bs.length + 5 := by omega
  have HNM : Hid ((B8 bs).length = Nat.min bs.length N) := hid (by
    have : Nat.min bs.length N = bs.length := Nat.min_eq_left (by omega)
    simp [this])
  clear hN
  go_upto_region 7 with (at_make; go_loud (
    refine wpList_make_full _ rfl _ _ 39 rfl w0.heap.size 5 i0 (.int .u8 0) 1 Tryz.underlying39 hi hz0 hz1 _ _ _ _ N rfl rfl (by have := HN.out; omega) (by have := HN.out; omega) (by rw [hz2]; omega) (by unfold maxLen; omega) (Nat.le_refl _) ?_
    intro w1 hown hgrow
    have H1 := hid (And.intro (own_made hown) ((Below.refl _ _).grown hgrow (Nat.le_refl _) (by intro k hk; cases hk)))
    clear hown hgrow))
  obtain ⟨⟨z0, hz, hzl⟩, hb1⟩ := H1.out
  have HZ := hid (And.intro hz hb1)
  clear H1 hz hb1 hi hz0 hz1 hz2
  go_wp2
  go_loopw [10] (fun ix wr => ∃ (i : Nat) (zs : List Int), i ≤ N ∧ ix = .int .i64 i ∧ zs.length = N ∧ Hid (∀ j, j < i → zs[j]? = some 171) ∧ Hid (Own wr w0.heap.size zs ∧ Below w0.heap.size w0 wr)) (fun ix _ => N - (intOf ix).toNat)
  case atStart => exact ⟨0, z0, Nat.zero_le _, rfl, hzl, hid (fun j hj => absurd hj (Nat.not_lt_zero _)), HZ⟩
  clear HZ hzl
  obtain ⟨i, zs, hiN, rfl, hzs, HA, HW⟩ := hrel
  by_cases hlt : i < N
  · have i1 : (0 : Int) ≤ (i : Int) := by omega
    have i2 : (i : Int) < (N : Int) := by omega
    obtain ⟨x, hx⟩ : ∃ x, zs[i]? = some x := ⟨zs[i], List.getElem?_eq_getElem (by omega)⟩
    have c1 := own_cell HW.out.1 hx
    have f1 := own_free HW.out.1 i
    clear hx
    go_wp2
    go_roundw
    case rel => exact ⟨i + 1, zs.set i 171, by omega, by go_num, by simp [hzs], hid (fill_step hzs hlt HA.out), hid ⟨own_set HW.out.1, HW.out.2.setCell (Nat.le_refl _) _⟩⟩
    case measure => simp [intOf]; omega
  · obtain rfl : i = N := by omega
    have HF := hid (And.intro (own_fill HW.out.1 hzs HA.out) HW.out.2)
    have HPOS : Hid (CpSrc w0.heap.size ao bs wr) := hid (by
      intro hp
      have hne : bs ≠ [] := by intro e; subst e; simp at hp
      obtain ⟨b, off, rfl, hj⟩ := HX.out hne
      refine ⟨rfl, _, rfl, ?_⟩
      intro j u hu
      rw [add_lit]
      obtain ⟨y, hy, rfl⟩ : ∃ y, bs[j]? = some y ∧ Value.int .u8 y = u := by simpa using hu
      have := hj j y hy
      exact (HW.out.2.cell (World.block_lt_of_cell? _ _ this)).trans this)
    clear HA HW hzs hlt HX
    go_upto_region 12 with (
      refine wpList_copy_splice (by rfl) (.tmp 48) (.tmp 49) 39 39 rfl 5 Tryz.underlying39 hsz _ _ _ _ _ _ rfl rfl w0.heap.size 0 (B8 (List.replicate i 171)) 5 HF.out.1 (B8 bs) HNM.out HPOS.out (by simp; omega) (by intro u hu; obtain ⟨_, _, rfl⟩ := List.mem_map.1 hu; rfl) w0.heap.size w0 HF.out.2 (Nat.le_refl _) ?_
      intro w2 hg2 hb2
      have H2 := hid (And.intro (own_spl5 (by omega) hg2.out) hb2)
      clear hg2 hb2)
    clear HF HPOS HNM hsz
    have hzl2 : (bs ++ List.replicate 5 171).length = i := by simp; omega
    obtain ⟨rv, hrv, hsl, -⟩ := sl_to (own_sl H2.out.1 (by omega)) bs.length (by simp)
    rw [List.take_left] at hsl
    rw [hzl2] at hrv
    have HRV := hid hsl
    obtain ⟨gv, hgv⟩ : ∃ gv, gv = Value.slice (some ⟨w0.heap.size, 0, none⟩) i i := ⟨_, rfl⟩
    rw [← hgv] at hrv ⊢
    have HGV := hid hgv
    have hP := bdec_u rv bs
    have hR := rbdec_u (.slice ao bs.length cc) bs
    have hxl := tT_L bs HO.out
    generalize tF (decBat bs) = n1 at hP hR
    generalize tT (decBat bs) = X1 at hP hR hxl
    generalize tE (decBat bs) = E1 at hP hR
    unfold UB at hP hR
    have HP := hid hP
    have HR := hid hR
    have HSM := hid (fun S1 S2 W h1 h2 => bsame_yes n1 X1 S1 S2 W h1 h2 hxl)
    clear hP hR hsl hgv hxl
    go_upto_region 14 with (first
      | (go_at_call 15
         refine (HP.out _ HRV.out HO.out).mono ?_
         rintro e w3 ⟨hb3, so1, sc1, rfl, hc1⟩
         have H3 := hid (lb1_start (f := n1) H2.out.1 H2.out.2 hb3 hc1)
         have HR3 := hid (HRV.out.below hb3)
         clear hb3 hc1)
      | (go_at_call 16
         refine (HR.out _ (HS.out.below H3.out.hb) HO.out).mono ?_
         rintro e w4 ⟨hb4, so2, sc2, rfl, hc2⟩
         have H4 := hid (lbt_start H3.out hb4 hc2)
         clear hb4 hc2))
    clear HP HR H2 H3 HRV HR3 hrv
    refine cutG (fun W => Lbt w0 W (bs ++ List.replicate 5 171) w3.heap.size w4.heap.size n1 (.slice so1 X1.length sc1) (.slice so2 X1.length sc2) X1) H4.out ?_
    intro W5 HH
    have H5 := hid HH
    clear HH H4
    generalize w3.heap.size = r1 at H5 ⊢
    generalize w4.heap.size = r2 at H5 ⊢
    clear w1 w2 w3 w4
    obtain ⟨p0, p1, -⟩ := vfacts2 H5.out.b1
    obtain ⟨q0, q1, -⟩ := vfacts2 H5.out.b2
    obtain ⟨rv0, hrv, hsl, -⟩ := sl_to (own_sl H5.out.own (by omega)) bs.length (by simp)
    rw [List.take_left] at hsl
    rw [hzl2, ← HGV.out] at hrv
    have HSL := hid hsl
    clear hsl
    go_upto_region 16 with (first
      | (go_at_call 17
         refine (HSM.out _ _ _ H5.out.c1 H5.out.c2).mono ?_
         rintro e w6 ⟨rfl, hb6⟩
         have H6 := hid (H5.out.below hb6)
         have HL6 := hid (HSL.out.below hb6)
         clear hb6)
      | (go_at_call 14
         refine (bytes_same _ _ bs _ HL6.out (HS.out.below H6.out.hb) (by omega)).mono ?_
         rintro e w7 ⟨hd7, rfl⟩
         have H7 := hid (H6.out.below hd7.below)
         clear hd7))
    clear H5 HSL HL6 H6 p0 p1 q0 q1 hrv
    rw [HGV.out]
    go_wp2
    go_loopw [15] (fun ix wq => ∃ (j : Nat), bs.length ≤ j ∧ j ≤ i ∧ ix = .int .i64 j ∧ Hid (Lbt w0 wq (bs ++ List.replicate 5 171) r1 r2 n1 (.slice so1 X1.length sc1) (.slice so2 X1.length sc2) X1)) (fun ix _ => i - (intOf ix).toNat)
    case atStart => exact ⟨bs.length, Nat.le_refl _, by omega, rfl, H7⟩
    clear H7
    obtain ⟨j, hj0, hj1, rfl, HL⟩ := hrel
    by_cases hlt : j < i
    · have i1 : (0 : Int) ≤ (j : Int) := by omega
      have i2 : (j : Int) < (i : Int) := by omega
      have c1 := own_cell HL.out.own (show (bs ++ List.replicate 5 171)[j]? = some (171 : Int) by rw [List.getElem?_append_right hj0, List.getElem?_replicate, if_pos (by omega)])
      go_wp2
      go_roundw
      case rel => exact ⟨j + 1, by omega, by omega, by go_num, HL⟩
      case measure => simp [intOf]; omega
    · obtain rfl : j = i := by omega
      by_cases hpos : bs.length = 0
      · have hpos' : (bs.length : Int) = 0 := by omega
        go_wp2_with (go_at_call 11; refine (known_any _).mono ?_; rintro e w8 ⟨rfl, hb8⟩)
        go_ret
        exact ⟨rfl, HB0.out.trans ((below_on HL.out.hb hb8).mono HB0.out.size)⟩
      · have hpos1 : (0 : Int) < (bs.length : Int) := by omega
        have htb : -(bs.length : Int) < at0.tmod bs.length ∧ at0.tmod bs.length < bs.length := by
          have h1 : (at0.tmod bs.length).natAbs < bs.length := by
            rw [Int.natAbs_tmod]
            exact Nat.mod_lt _ (by omega)
          omega
        have HTB := hid htb
        clear htb
        by_cases hneg : at0.tmod bs.length < 0
        · obtain ⟨k, hwr, hk⟩ : ∃ c : Nat, wrap64 (at0.tmod bs.length + bs.length) = c ∧ c < bs.length := by
            have := HTB.out
            refine ⟨(at0.tmod bs.length + bs.length).toNat, ?_, by omega⟩
            unfold wrap64
            omega
          have HWR := hid hwr
          clear hwr
          go_upto_region 26 with fail
          rw [HWR.out]
          clear HTB HWR hneg
          have i1 : (0 : Int) ≤ (k : Int) := by omega
          have i2 : (k : Int) < (j : Int) := by omega
          obtain ⟨x, hx⟩ : ∃ x, (bs ++ List.replicate 5 171)[k]? = some x := ⟨_, List.getElem?_eq_getElem (by simp; omega)⟩
          have c1 := own_cell HL.out.own hx
          have f1 := own_free HL.out.own k
          clear hx
          go_upto_region 27 with fail
          refine cutG (fun W => Lbt w0 W (bs.set k by0 ++ List.replicate 5 171) r1 r2 n1 (.slice so1 X1.length sc1) (.slice so2 X1.length sc2) X1) (by have := HL.out.set k by0; rwa [List.set_append_left _ _ hk] at this) ?_
          intro W6 HH
          have H6 := hid HH
          clear HH HL c1 f1 i1 i2
          have hb2 : (bs.set k by0).length = bs.length := List.length_set
          have hzl3 : (bs.set k by0 ++ List.replicate 5 171).length = j := by simp; omega
          have HO2 := hid (oct_set (k := k) HO.out HBY.out)
          obtain ⟨rv2, hrv2, hsl2, -⟩ := sl_to (own_sl H6.out.own (by omega)) bs.length (by simp)
          rw [List.take_append_of_le_length (by omega), List.take_of_length_le (by omega)] at hsl2
          rw [hzl3, ← HGV.out] at hrv2
          rw [← HGV.out]
          have hP := bdec_u rv2 (bs.set k by0)
          have hR := fun v => rbdec_u v (bs.set k by0)
          have hxl := tT_L (bs.set k by0) HO2.out
          generalize tF (decBat (bs.set k by0)) = n2 at hP hR
          generalize tT (decBat (bs.set k by0)) = X2 at hP hR hxl
          generalize tE (decBat (bs.set k by0)) = E2 at hP hR
          unfold UB at hP hR
          have HP := hid hP
          have HR := hid hR
          have HSL2 := hid hsl2
          have HSM2 := hid (fun S1 S2 W h1 h2 => bsame_yes n2 X2 S1 S2 W h1 h2 hxl)
          clear hP hR hsl2 hxl
          go_upto_region 28 with (first
            | (go_at_call 15
               refine (HP.out _ HSL2.out HO2.out).mono ?_
               rintro e w7 ⟨hb7, so3, sc3, rfl, hc7⟩
               have H7 := hid (And.intro (lb1_start (f := n2) H6.out.own H6.out.hb hb7 hc7) (And.intro ((H6.out.below hb7).below (below1 w7 (bo n2 (.slice so3 X2.length sc3)))) ((HSL2.out.below hb7).below (below1 w7 (bo n2 (.slice so3 X2.length sc3))))))
               clear hb7 hc7))
          refine cutG (fun W => Lb1 w0 W (bs.set k by0 ++ List.replicate 5 171) w7.heap.size n2 (.slice so3 X2.length sc3) X2 ∧ Lbt w0 W (bs.set k by0 ++ List.replicate 5 171) r1 r2 n1 (.slice so1 X1.length sc1) (.slice so2 X1.length sc2) X1 ∧ Sl W rv2 (bs.set k by0)) H7.out ?_
          intro W7 HH
          have H7 := hid HH
          clear HH H6 HP hrv2 HSL2
          generalize w7.heap.size = r3 at H7 ⊢
          obtain ⟨rv3, hrv3, hsl3, -⟩ := sl_to (own_sl H7.out.1.own (by omega)) bs.length (by simp)
          rw [List.take_append_of_le_length (by omega), List.take_of_length_le (by omega)] at hsl3
          rw [hzl3, ← HGV.out] at hrv3
          have HSL3 := hid hsl3
          clear hsl3
          go_upto_region 29 with (first
            | (go_at_call 16
               refine (HR.out rv3 _ HSL3.out HO2.out).mono ?_
               rintro e w8 ⟨hb8, so4, sc4, rfl, hc8⟩
               have H8 := hid (And.intro (lbt_start H7.out.1 hb8 hc8) ((H7.out.2.1.below hb8).below (below1 w8 (bo n2 (.slice so4 X2.length sc4)))))
               clear hb8 hc8))
          clear H7 HR HSL3 hrv3 HO2
          refine cutG (fun W => Lbt w0 W (bs.set k by0 ++ List.replicate 5 171) r3 w8.heap.size n2 (.slice so3 X2.length sc3) (.slice so4 X2.length sc4) X2 ∧ Lbt w0 W (bs.set k by0 ++ List.replicate 5 171) r1 r2 n1 (.slice so1 X1.length sc1) (.slice so2 X1.length sc2) X1) H8.out ?_
          intro W8 HH
          have H8 := hid HH
          clear HH
          generalize w8.heap.size = r4 at H8 ⊢
          obtain ⟨p0, p1, -⟩ := vfacts2 H8.out.1.b1
          obtain ⟨q0, q1, -⟩ := vfacts2 H8.out.1.b2
          go_wp2_with (first
            | (go_at_call 17
               refine (HSM2.out _ _ _ H8.out.1.c1 H8.out.1.c2).mono ?_
               rintro e w9 ⟨rfl, hb9⟩
               have H9 := hid (H8.out.2.below hb9)
               obtain ⟨p0, p1, -⟩ := vfacts2 H9.out.b1
               obtain ⟨q0, q1, -⟩ := vfacts2 H9.out.b2
               clear hb9 HSM2)
            | (go_at_call 17
               refine (HSM.out _ _ _ H9.out.c1 H9.out.c2).mono ?_
               rintro e w10 ⟨rfl, hb10⟩
               have H10 := hid (below_on H9.out.hb hb10)
               clear hb10)
            | (go_at_call 11
               refine (known_any _).mono ?_
               rintro e w11 ⟨rfl, hb11⟩
               have H11 := hid (below_on H10.out hb11)
               clear hb11))
          go_ret
          exact ⟨rfl, HB0.out.trans (H11.out.mono HB0.out.size)⟩
        · obtain ⟨k, hwr, hk⟩ : ∃ c : Nat, at0.tmod bs.length = c ∧ c < bs.length := by
            have := HTB.out
            exact ⟨(at0.tmod bs.length).toNat, by omega, by omega⟩
          have HWR := hid hwr
          clear hwr
          go_upto_region 26 with fail
          rw [HWR.out]
          clear HTB HWR hneg
          have i1 : (0 : Int) ≤ (k : Int) := by omega
          have i2 : (k : Int) < (j : Int) := by omega
          obtain ⟨x, hx⟩ : ∃ x, (bs ++ List.replicate 5 171)[k]? = some x := ⟨_, List.getElem?_eq_getElem (by simp; omega)⟩
          have c1 := own_cell HL.out.own hx
          have f1 := own_free HL.out.own k
          clear hx
          go_upto_region 27 with fail
          refine cutG (fun W => Lbt w0 W (bs.set k by0 ++ List.replicate 5 171) r1 r2 n1 (.slice so1 X1.length sc1) (.slice so2 X1.length sc2) X1) (by have := HL.out.set k by0; rwa [List.set_append_left _ _ hk] at this) ?_
          intro W6 HH
          have H6 := hid HH
          clear HH HL c1 f1 i1 i2
          have hb2 : (bs.set k by0).length = bs.length := List.length_set
          have hzl3 : (bs.set k by0 ++ List.replicate 5 171).length = j := by simp; omega
          have HO2 := hid (oct_set (k := k) HO.out HBY.out)
          obtain ⟨rv2, hrv2, hsl2, -⟩ := sl_to (own_sl H6.out.own (by omega)) bs.length (by simp)
          rw [List.take_append_of_le_length (by omega), List.take_of_length_le (by omega)] at hsl2
          rw [hzl3, ← HGV.out] at hrv2
          rw [← HGV.out]
          have hP := bdec_u rv2 (bs.set k by0)
          have hR := fun v => rbdec_u v (bs.set k by0)
          have hxl := tT_L (bs.set k by0) HO2.out
          generalize tF (decBat (bs.set k by0)) = n2 at hP hR
          generalize tT (decBat (bs.set k by0)) = X2 at hP hR hxl
          generalize tE (decBat (bs.set k by0)) = E2 at hP hR
          unfold UB at hP hR
          have HP := hid hP
          have HR := hid hR
          have HSL2 := hid hsl2
          have HSM2 := hid (fun S1 S2 W h1 h2 => bsame_yes n2 X2 S1 S2 W h1 h2 hxl)
          clear hP hR hsl2 hxl
          go_upto_region 28 with (first
            | (go_at_call 15
               refine (HP.out _ HSL2.out HO2.out).mono ?_
               rintro e w7 ⟨hb7, so3, sc3, rfl, hc7⟩
               have H7 := hid (And.intro (lb1_start (f := n2) H6.out.own H6.out.hb hb7 hc7) (And.intro ((H6.out.below hb7).below (below1 w7 (bo n2 (.slice so3 X2.length sc3)))) ((HSL2.out.below hb7).below (below1 w7 (bo n2 (.slice so3 X2.length sc3))))))
               clear hb7 hc7))
          refine cutG (fun W => Lb1 w0 W (bs.set k by0 ++ List.replicate 5 171) w7.heap.size n2 (.slice so3 X2.length sc3) X2 ∧ Lbt w0 W (bs.set k by0 ++ List.replicate 5 171) r1 r2 n1 (.slice so1 X1.length sc1) (.slice so2 X1.length sc2) X1 ∧ Sl W rv2 (bs.set k by0)) H7.out ?_
          intro W7 HH
          have H7 := hid HH
          clear HH H6 HP hrv2 HSL2
          generalize w7.heap.size = r3 at H7 ⊢
          obtain ⟨rv3, hrv3, hsl3, -⟩ := sl_to (own_sl H7.out.1.own (by omega)) bs.length (by simp)
          rw [List.take_append_of_le_length (by omega), List.take_of_length_le (by omega)] at hsl3
          rw [hzl3, ← HGV.out] at hrv3
          have HSL3 := hid hsl3
          clear hsl3
          go_upto_region 29 with (first
            | (go_at_call 16
               refine (HR.out rv3 _ HSL3.out HO2.out).mono ?_
               rintro e w8 ⟨hb8, so4, sc4, rfl, hc8⟩
               have H8 := hid (And.intro (lbt_start H7.out.1 hb8 hc8) ((H7.out.2.1.below hb8).below (below1 w8 (bo n2 (.slice so4 X2.length sc4)))))
               clear hb8 hc8))
          clear H7 HR HSL3 hrv3 HO2
          refine cutG (fun W => Lbt w0 W (bs.set k by0 ++ List.replicate 5 171) r3 w8.heap.size n2 (.slice so3 X2.length sc3) (.slice so4 X2.length sc4) X2 ∧ Lbt w0 W (bs.set k by0 ++ List.replicate 5 171) r1 r2 n1 (.slice so1 X1.length sc1) (.slice so2 X1.length sc2) X1) H8.out ?_
          intro W8 HH
          have H8 := hid HH
          clear HH
          generalize w8.heap.size = r4 at H8 ⊢
          obtain ⟨p0, p1, -⟩ := vfacts2 H8.out.1.b1
          obtain ⟨q0, q1, -⟩ := vfacts2 H8.out.1.b2
          go_wp2_with (first
            | (go_at_call 17
               refine (HSM2.out _ _ _ H8.out.1.c1 H8.out.1.c2).mono ?_
               rintro e w9 ⟨rfl, hb9⟩
               have H9 := hid (H8.out.2.below hb9)
               obtain ⟨p0, p1, -⟩ := vfacts2 H9.out.b1
               obtain ⟨q0, q1, -⟩ := vfacts2 H9.out.b2
               clear hb9 HSM2)
            | (go_at_call 17
               refine (HSM.out _ _ _ H9.out.c1 H9.out.c2).mono ?_
               rintro e w10 ⟨rfl, hb10⟩
               have H10 := hid (below_on H9.out.hb hb10)
               clear hb10)
            | (go_at_call 11
               refine (known_any _).mono ?_
               rintro e w11 ⟨rfl, hb11⟩
               have H11 := hid (below_on H10.out hb11)
               clear hb11))
          go_ret
          exact ⟨rfl, HB0.out.trans (H11.out.mono HB0.out.size)⟩

end Go.Proofs.YtdnlfacfleemeaaGreat

namespace Go.Proofs.YtdnlfacfleemeaaGreat
open Go.RowKit Go.Lib

set_option maxRecDepth 100000 in
set_option maxHeartbeats 16000000 in
/-- The law, where far is below the limit. -/
theorem dec_below (v : Value) (bs : List Int) (at0 by0 far : Int) (w : World) (h : Sn w v bs) (ho : Oct bs) (hby : 0 ≤ by0 ∧ by0 < 256) (hl : (bs.length : Int) ≤ 200000) (hf : far < 65530) :
    Calls Tryz.prog 5 #[v, .int .i64 at0, .int .u8 by0, .int .i64 far] w fun x w' => x = .returned (.bool true) ∧ Below w.heap.size w w' := by
  have h := h.1
  have HBY := hid hby
  have HO := hid ho
  have HS0 := hid h
  obtain ⟨ao, cc, rfl, hc, hx⟩ := h
  have hd0 : decide ((200000 : Int) < (bs.length : Int)) = false := by simp; omega
  have HB00 := hid (Below.refl w.heap.size w)
  have hf1 : True := trivial
  have hf2 : decide (65530 ≤ far) = false := by simp; omega
  clear hf
  clear ho hc hx hby
  go_enter Tryz.func5, Tryz.ntmps5
  go_upto_region 6 with fail
  refine cutG (fun W => Below w.heap.size w W ∧ Sl W (.slice ao bs.length cc) bs) ⟨HB00.out, HS0.out⟩ ?_
  rintro w0 ⟨HB0, HS⟩
  have HB0 := hid HB0
  have HS := hid HS
  have HX := hid (sl_cells HS.out)
  clear HB00 HS0 hf1 hf2 hd0
  obtain ⟨i0, hi, hz0, hz1, hz2⟩ := info_parts Tryz.info5
  have hsz : (Tryz.prog.info? 5).map (·.size) = some 1 := by rw [hi]; simp [hz1]
  obtain ⟨N, hN⟩ : ∃ N, N = bs.length + 5 := ⟨_, rfl⟩
  have HN := hid hN
  have hNa : bs.length + 5 ≤ N := by omega
  have hNb : N ≤ bs.length + 5 := by omega
  have HNM : Hid ((B8 bs).length = Nat.min bs.length N) := hid (by
    have : Nat.min bs.length N = bs.length := Nat.min_eq_left (by omega)
    simp [this])
  clear hN
  go_upto_region 7 with (at_make; go_loud (
    refine wpList_make_full _ rfl _ _ 39 rfl w0.heap.size 5 i0 (.int .u8 0) 1 Tryz.underlying39 hi hz0 hz1 _ _ _ _ N rfl rfl (by have := HN.out; omega) (by have := HN.out; omega) (by rw [hz2]; omega) (by unfold maxLen; omega) (Nat.le_refl _) ?_
    intro w1 hown hgrow
    have H1 := hid (And.intro (own_made hown) ((Below.refl _ _).grown hgrow (Nat.le_refl _) (by intro k hk; cases hk)))
    clear hown hgrow))
  obtain ⟨⟨z0, hz, hzl⟩, hb1⟩ := H1.out
  have HZ := hid (And.intro hz hb1)
  clear H1 hz hb1 hi hz0 hz1 hz2
  go_wp2
  go_loopw [10] (fun ix wr => ∃ (i : Nat) (zs : List Int), i ≤ N ∧ ix = .int .i64 i ∧ zs.length = N ∧ Hid (∀ j, j < i → zs[j]? = some 171) ∧ Hid (Own wr w0.heap.size zs ∧ Below w0.heap.size w0 wr)) (fun ix _ => N - (intOf ix).toNat)
  case atStart => exact ⟨0, z0, Nat.zero_le _, rfl, hzl, hid (fun j hj => absurd hj (Nat.not_lt_zero _)), HZ⟩
  clear HZ hzl
  obtain ⟨i, zs, hiN, rfl, hzs, HA, HW⟩ := hrel
  by_cases hlt : i < N
  · have i1 : (0 : Int) ≤ (i : Int) := by omega
    have i2 : (i : Int) < (N : Int) := by omega
    obtain ⟨x, hx⟩ : ∃ x, zs[i]? = some x := ⟨zs[i], List.getElem?_eq_getElem (by omega)⟩
    have c1 := own_cell HW.out.1 hx
    have f1 := own_free HW.out.1 i
    clear hx
    go_wp2
    go_roundw
    case rel => exact ⟨i + 1, zs.set i 171, by omega, by go_num, by simp [hzs], hid (fill_step hzs hlt HA.out), hid ⟨own_set HW.out.1, HW.out.2.setCell (Nat.le_refl _) _⟩⟩
    case measure => simp [intOf]; omega
  · obtain rfl : i = N := by omega
    have HF := hid (And.intro (own_fill HW.out.1 hzs HA.out) HW.out.2)
    have HPOS : Hid (CpSrc w0.heap.size ao bs wr) := hid (by
      intro hp
      have hne : bs ≠ [] := by intro e; subst e; simp at hp
      obtain ⟨b, off, rfl, hj⟩ := HX.out hne
      refine ⟨rfl, _, rfl, ?_⟩
      intro j u hu
      rw [add_lit]
      obtain ⟨y, hy, rfl⟩ : ∃ y, bs[j]? = some y ∧ Value.int .u8 y = u := by simpa using hu
      have := hj j y hy
      exact (HW.out.2.cell (World.block_lt_of_cell? _ _ this)).trans this)
    clear HA HW hzs hlt HX
    go_upto_region 12 with (
      refine wpList_copy_splice (by rfl) (.tmp 48) (.tmp 49) 39 39 rfl 5 Tryz.underlying39 hsz _ _ _ _ _ _ rfl rfl w0.heap.size 0 (B8 (List.replicate i 171)) 5 HF.out.1 (B8 bs) HNM.out HPOS.out (by simp; omega) (by intro u hu; obtain ⟨_, _, rfl⟩ := List.mem_map.1 hu; rfl) w0.heap.size w0 HF.out.2 (Nat.le_refl _) ?_
      intro w2 hg2 hb2
      have H2 := hid (And.intro (own_spl5 (by omega) hg2.out) hb2)
      clear hg2 hb2)
    clear HF HPOS HNM hsz
    have hzl2 : (bs ++ List.replicate 5 171).length = i := by simp; omega
    obtain ⟨rv, hrv, hsl, -⟩ := sl_to (own_sl H2.out.1 (by omega)) bs.length (by simp)
    rw [List.take_left] at hsl
    rw [hzl2] at hrv
    have HRV := hid hsl
    obtain ⟨gv, hgv⟩ : ∃ gv, gv = Value.slice (some ⟨w0.heap.size, 0, none⟩) i i := ⟨_, rfl⟩
    rw [← hgv] at hrv ⊢
    have HGV := hid hgv
    have hP := bdec_u rv bs
    have hR := rbdec_u (.slice ao bs.length cc) bs
    have hxl := tT_L bs HO.out
    generalize tF (decBat bs) = n1 at hP hR
    generalize tT (decBat bs) = X1 at hP hR hxl
    generalize tE (decBat bs) = E1 at hP hR
    unfold UB at hP hR
    have HP := hid hP
    have HR := hid hR
    have HSM := hid (fun S1 S2 W h1 h2 => bsame_yes n1 X1 S1 S2 W h1 h2 hxl)
    clear hP hR hsl hgv hxl
    go_upto_region 14 with (first
      | (go_at_call 15
         refine (HP.out _ HRV.out HO.out).mono ?_
         rintro e w3 ⟨hb3, so1, sc1, rfl, hc1⟩
         have H3 := hid (lb1_start (f := n1) H2.out.1 H2.out.2 hb3 hc1)
         have HR3 := hid (HRV.out.below hb3)
         clear hb3 hc1)
      | (go_at_call 16
         refine (HR.out _ (HS.out.below H3.out.hb) HO.out).mono ?_
         rintro e w4 ⟨hb4, so2, sc2, rfl, hc2⟩
         have H4 := hid (lbt_start H3.out hb4 hc2)
         clear hb4 hc2))
    clear HP HR H2 H3 HRV HR3 hrv
    refine cutG (fun W => Lbt w0 W (bs ++ List.replicate 5 171) w3.heap.size w4.heap.size n1 (.slice so1 X1.length sc1) (.slice so2 X1.length sc2) X1) H4.out ?_
    intro W5 HH
    have H5 := hid HH
    clear HH H4
    generalize w3.heap.size = r1 at H5 ⊢
    generalize w4.heap.size = r2 at H5 ⊢
    clear w1 w2 w3 w4
    obtain ⟨p0, p1, -⟩ := vfacts2 H5.out.b1
    obtain ⟨q0, q1, -⟩ := vfacts2 H5.out.b2
    obtain ⟨rv0, hrv, hsl, -⟩ := sl_to (own_sl H5.out.own (by omega)) bs.length (by simp)
    rw [List.take_left] at hsl
    rw [hzl2, ← HGV.out] at hrv
    have HSL := hid hsl
    clear hsl
    go_upto_region 16 with (first
      | (go_at_call 17
         refine (HSM.out _ _ _ H5.out.c1 H5.out.c2).mono ?_
         rintro e w6 ⟨rfl, hb6⟩
         have H6 := hid (H5.out.below hb6)
         have HL6 := hid (HSL.out.below hb6)
         clear hb6)
      | (go_at_call 14
         refine (bytes_same _ _ bs _ HL6.out (HS.out.below H6.out.hb) (by omega)).mono ?_
         rintro e w7 ⟨hd7, rfl⟩
         have H7 := hid (H6.out.below hd7.below)
         clear hd7))
    clear H5 HSL HL6 H6 p0 p1 q0 q1 hrv
    rw [HGV.out]
    go_wp2
    go_loopw [15] (fun ix wq => ∃ (j : Nat), bs.length ≤ j ∧ j ≤ i ∧ ix = .int .i64 j ∧ Hid (Lbt w0 wq (bs ++ List.replicate 5 171) r1 r2 n1 (.slice so1 X1.length sc1) (.slice so2 X1.length sc2) X1)) (fun ix _ => i - (intOf ix).toNat)
    case atStart => exact ⟨bs.length, Nat.le_refl _, by omega, rfl, H7⟩
    clear H7
    obtain ⟨j, hj0, hj1, rfl, HL⟩ := hrel
    by_cases hlt : j < i
    · have i1 : (0 : Int) ≤ (j : Int) := by omega
      have i2 : (j : Int) < (i : Int) := by omega
      have c1 := own_cell HL.out.own (show (bs ++ List.replicate 5 171)[j]? = some (171 : Int) by rw [List.getElem?_append_right hj0, List.getElem?_replicate, if_pos (by omega)])
      go_wp2
      go_roundw
      case rel => exact ⟨j + 1, by omega, by omega, by go_num, HL⟩
      case measure => simp [intOf]; omega
    · obtain rfl : j = i := by omega
      by_cases hpos : bs.length = 0
      · have hpos' : (bs.length : Int) = 0 := by omega
        go_wp2_with (go_at_call 11; refine (known_any _).mono ?_; rintro e w8 ⟨rfl, hb8⟩)
        go_ret
        exact ⟨rfl, HB0.out.trans ((below_on HL.out.hb hb8).mono HB0.out.size)⟩
      · have hpos1 : (0 : Int) < (bs.length : Int) := by omega
        have htb : -(bs.length : Int) < at0.tmod bs.length ∧ at0.tmod bs.length < bs.length := by
          have h1 : (at0.tmod bs.length).natAbs < bs.length := by
            rw [Int.natAbs_tmod]
            exact Nat.mod_lt _ (by omega)
          omega
        have HTB := hid htb
        clear htb
        by_cases hneg : at0.tmod bs.length < 0
        · obtain ⟨k, hwr, hk⟩ : ∃ c : Nat, wrap64 (at0.tmod bs.length + bs.length) = c ∧ c < bs.length := by
            have := HTB.out
            refine ⟨(at0.tmod bs.length + bs.length).toNat, ?_, by omega⟩
            unfold wrap64
            omega
          have HWR := hid hwr
          clear hwr
          go_upto_region 26 with fail
          rw [HWR.out]
          clear HTB HWR hneg
          have i1 : (0 : Int) ≤ (k : Int) := by omega
          have i2 : (k : Int) < (j : Int) := by omega
          obtain ⟨x, hx⟩ : ∃ x, (bs ++ List.replicate 5 171)[k]? = some x := ⟨_, List.getElem?_eq_getElem (by simp; omega)⟩
          have c1 := own_cell HL.out.own hx
          have f1 := own_free HL.out.own k
          clear hx
          go_upto_region 27 with fail
          refine cutG (fun W => Lbt w0 W (bs.set k by0 ++ List.replicate 5 171) r1 r2 n1 (.slice so1 X1.length sc1) (.slice so2 X1.length sc2) X1) (by have := HL.out.set k by0; rwa [List.set_append_left _ _ hk] at this) ?_
          intro W6 HH
          have H6 := hid HH
          clear HH HL c1 f1 i1 i2
          have hb2 : (bs.set k by0).length = bs.length := List.length_set
          have hzl3 : (bs.set k by0 ++ List.replicate 5 171).length = j := by simp; omega
          have HO2 := hid (oct_set (k := k) HO.out HBY.out)
          obtain ⟨rv2, hrv2, hsl2, -⟩ := sl_to (own_sl H6.out.own (by omega)) bs.length (by simp)
          rw [List.take_append_of_le_length (by omega), List.take_of_length_le (by omega)] at hsl2
          rw [hzl3, ← HGV.out] at hrv2
          rw [← HGV.out]
          have hP := bdec_u rv2 (bs.set k by0)
          have hR := fun v => rbdec_u v (bs.set k by0)
          have hxl := tT_L (bs.set k by0) HO2.out
          generalize tF (decBat (bs.set k by0)) = n2 at hP hR
          generalize tT (decBat (bs.set k by0)) = X2 at hP hR hxl
          generalize tE (decBat (bs.set k by0)) = E2 at hP hR
          unfold UB at hP hR
          have HP := hid hP
          have HR := hid hR
          have HSL2 := hid hsl2
          have HSM2 := hid (fun S1 S2 W h1 h2 => bsame_yes n2 X2 S1 S2 W h1 h2 hxl)
          clear hP hR hsl2 hxl
          go_upto_region 28 with (first
            | (go_at_call 15
               refine (HP.out _ HSL2.out HO2.out).mono ?_
               rintro e w7 ⟨hb7, so3, sc3, rfl, hc7⟩
               have H7 := hid (And.intro (lb1_start (f := n2) H6.out.own H6.out.hb hb7 hc7) (And.intro ((H6.out.below hb7).below (below1 w7 (bo n2 (.slice so3 X2.length sc3)))) ((HSL2.out.below hb7).below (below1 w7 (bo n2 (.slice so3 X2.length sc3))))))
               clear hb7 hc7))
          refine cutG (fun W => Lb1 w0 W (bs.set k by0 ++ List.replicate 5 171) w7.heap.size n2 (.slice so3 X2.length sc3) X2 ∧ Lbt w0 W (bs.set k by0 ++ List.replicate 5 171) r1 r2 n1 (.slice so1 X1.length sc1) (.slice so2 X1.length sc2) X1 ∧ Sl W rv2 (bs.set k by0)) H7.out ?_
          intro W7 HH
          have H7 := hid HH
          clear HH H6 HP hrv2 HSL2
          generalize w7.heap.size = r3 at H7 ⊢
          obtain ⟨rv3, hrv3, hsl3, -⟩ := sl_to (own_sl H7.out.1.own (by omega)) bs.length (by simp)
          rw [List.take_append_of_le_length (by omega), List.take_of_length_le (by omega)] at hsl3
          rw [hzl3, ← HGV.out] at hrv3
          have HSL3 := hid hsl3
          clear hsl3
          go_upto_region 29 with (first
            | (go_at_call 16
               refine (HR.out rv3 _ HSL3.out HO2.out).mono ?_
               rintro e w8 ⟨hb8, so4, sc4, rfl, hc8⟩
               have H8 := hid (And.intro (lbt_start H7.out.1 hb8 hc8) ((H7.out.2.1.below hb8).below (below1 w8 (bo n2 (.slice so4 X2.length sc4)))))
               clear hb8 hc8))
          clear H7 HR HSL3 hrv3 HO2
          refine cutG (fun W => Lbt w0 W (bs.set k by0 ++ List.replicate 5 171) r3 w8.heap.size n2 (.slice so3 X2.length sc3) (.slice so4 X2.length sc4) X2 ∧ Lbt w0 W (bs.set k by0 ++ List.replicate 5 171) r1 r2 n1 (.slice so1 X1.length sc1) (.slice so2 X1.length sc2) X1) H8.out ?_
          intro W8 HH
          have H8 := hid HH
          clear HH
          generalize w8.heap.size = r4 at H8 ⊢
          obtain ⟨p0, p1, -⟩ := vfacts2 H8.out.1.b1
          obtain ⟨q0, q1, -⟩ := vfacts2 H8.out.1.b2
          go_wp2_with (first
            | (go_at_call 17
               refine (HSM2.out _ _ _ H8.out.1.c1 H8.out.1.c2).mono ?_
               rintro e w9 ⟨rfl, hb9⟩
               have H9 := hid (H8.out.2.below hb9)
               obtain ⟨p0, p1, -⟩ := vfacts2 H9.out.b1
               obtain ⟨q0, q1, -⟩ := vfacts2 H9.out.b2
               clear hb9 HSM2)
            | (go_at_call 17
               refine (HSM.out _ _ _ H9.out.c1 H9.out.c2).mono ?_
               rintro e w10 ⟨rfl, hb10⟩
               have H10 := hid (below_on H9.out.hb hb10)
               clear hb10)
            | (go_at_call 11
               refine (known_any _).mono ?_
               rintro e w11 ⟨rfl, hb11⟩
               have H11 := hid (below_on H10.out hb11)
               clear hb11))
          go_ret
          exact ⟨rfl, HB0.out.trans (H11.out.mono HB0.out.size)⟩
        · obtain ⟨k, hwr, hk⟩ : ∃ c : Nat, at0.tmod bs.length = c ∧ c < bs.length := by
            have := HTB.out
            exact ⟨(at0.tmod bs.length).toNat, by omega, by omega⟩
          have HWR := hid hwr
          clear hwr
          go_upto_region 26 with fail
          rw [HWR.out]
          clear HTB HWR hneg
          have i1 : (0 : Int) ≤ (k : Int) := by omega
          have i2 : (k : Int) < (j : Int) := by omega
          obtain ⟨x, hx⟩ : ∃ x, (bs ++ List.replicate 5 171)[k]? = some x := ⟨_, List.getElem?_eq_getElem (by simp; omega)⟩
          have c1 := own_cell HL.out.own hx
          have f1 := own_free HL.out.own k
          clear hx
          go_upto_region 27 with fail
          refine cutG (fun W => Lbt w0 W (bs.set k by0 ++ List.replicate 5 171) r1 r2 n1 (.slice so1 X1.length sc1) (.slice so2 X1.length sc2) X1) (by have := HL.out.set k by0; rwa [List.set_append_left _ _ hk] at this) ?_
          intro W6 HH
          have H6 := hid HH
          clear HH HL c1 f1 i1 i2
          have hb2 : (bs.set k by0).length = bs.length := List.length_set
          have hzl3 : (bs.set k by0 ++ List.replicate 5 171).length = j := by simp; omega
          have HO2 := hid (oct_set (k := k) HO.out HBY.out)
          obtain ⟨rv2, hrv2, hsl2, -⟩ := sl_to (own_sl H6.out.own (by omega)) bs.length (by simp)
          rw [List.take_append_of_le_length (by omega), List.take_of_length_le (by omega)] at hsl2
          rw [hzl3, ← HGV.out] at hrv2
          rw [← HGV.out]
          have hP := bdec_u rv2 (bs.set k by0)
          have hR := fun v => rbdec_u v (bs.set k by0)
          have hxl := tT_L (bs.set k by0) HO2.out
          generalize tF (decBat (bs.set k by0)) = n2 at hP hR
          generalize tT (decBat (bs.set k by0)) = X2 at hP hR hxl
          generalize tE (decBat (bs.set k by0)) = E2 at hP hR
          unfold UB at hP hR
          have HP := hid hP
          have HR := hid hR
          have HSL2 := hid hsl2
          have HSM2 := hid (fun S1 S2 W h1 h2 => bsame_yes n2 X2 S1 S2 W h1 h2 hxl)
          clear hP hR hsl2 hxl
          go_upto_region 28 with (first
            | (go_at_call 15
               refine (HP.out _ HSL2.out HO2.out).mono ?_
               rintro e w7 ⟨hb7, so3, sc3, rfl, hc7⟩
               have H7 := hid (And.intro (lb1_start (f := n2) H6.out.own H6.out.hb hb7 hc7) (And.intro ((H6.out.below hb7).below (below1 w7 (bo n2 (.slice so3 X2.length sc3)))) ((HSL2.out.below hb7).below (below1 w7 (bo n2 (.slice so3 X2.length sc3))))))
               clear hb7 hc7))
          refine cutG (fun W => Lb1 w0 W (bs.set k by0 ++ List.replicate 5 171) w7.heap.size n2 (.slice so3 X2.length sc3) X2 ∧ Lbt w0 W (bs.set k by0 ++ List.replicate 5 171) r1 r2 n1 (.slice so1 X1.length sc1) (.slice so2 X1.length sc2) X1 ∧ Sl W rv2 (bs.set k by0)) H7.out ?_
          intro W7 HH
          have H7 := hid HH
          clear HH H6 HP hrv2 HSL2
          generalize w7.heap.size = r3 at H7 ⊢
          obtain ⟨rv3, hrv3, hsl3, -⟩ := sl_to (own_sl H7.out.1.own (by omega)) bs.length (by simp)
          rw [List.take_append_of_le_length (by omega), List.take_of_length_le (by omega)] at hsl3
          rw [hzl3, ← HGV.out] at hrv3
          have HSL3 := hid hsl3
          clear hsl3
          go_upto_region 29 with (first
            | (go_at_call 16
               refine (HR.out rv3 _ HSL3.out HO2.out).mono ?_
               rintro e w8 ⟨hb8, so4, sc4, rfl, hc8⟩
               have H8 := hid (And.intro (lbt_start H7.out.1 hb8 hc8) ((H7.out.2.1.below hb8).below (below1 w8 (bo n2 (.slice so4 X2.length sc4)))))
               clear hb8 hc8))
          clear H7 HR HSL3 hrv3 HO2
          refine cutG (fun W => Lbt w0 W (bs.set k by0 ++ List.replicate 5 171) r3 w8.heap.size n2 (.slice so3 X2.length sc3) (.slice so4 X2.length sc4) X2 ∧ Lbt w0 W (bs.set k by0 ++ List.replicate 5 171) r1 r2 n1 (.slice so1 X1.length sc1) (.slice so2 X1.length sc2) X1) H8.out ?_
          intro W8 HH
          have H8 := hid HH
          clear HH
          generalize w8.heap.size = r4 at H8 ⊢
          obtain ⟨p0, p1, -⟩ := vfacts2 H8.out.1.b1
          obtain ⟨q0, q1, -⟩ := vfacts2 H8.out.1.b2
          go_wp2_with (first
            | (go_at_call 17
               refine (HSM2.out _ _ _ H8.out.1.c1 H8.out.1.c2).mono ?_
               rintro e w9 ⟨rfl, hb9⟩
               have H9 := hid (H8.out.2.below hb9)
               obtain ⟨p0, p1, -⟩ := vfacts2 H9.out.b1
               obtain ⟨q0, q1, -⟩ := vfacts2 H9.out.b2
               clear hb9 HSM2)
            | (go_at_call 17
               refine (HSM.out _ _ _ H9.out.c1 H9.out.c2).mono ?_
               rintro e w10 ⟨rfl, hb10⟩
               have H10 := hid (below_on H9.out.hb hb10)
               clear hb10)
            | (go_at_call 11
               refine (known_any _).mono ?_
               rintro e w11 ⟨rfl, hb11⟩
               have H11 := hid (below_on H10.out hb11)
               clear hb11))
          go_ret
          exact ⟨rfl, HB0.out.trans (H11.out.mono HB0.out.size)⟩

end Go.Proofs.YtdnlfacfleemeaaGreat
