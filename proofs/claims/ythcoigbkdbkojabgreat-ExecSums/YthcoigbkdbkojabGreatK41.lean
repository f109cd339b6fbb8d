import Derived.Test.YthcoigbkdbkojabGreatK40
namespace Go.Proofs.YthcoigbkdbkojabGreat
open Go.RowKit Go.MapKept
open V (hp_new hp_lt hp_below hp_alloc kl)

set_option maxRecDepth 100000 in
set_option maxHeartbeats 16000000 in
theorem sums_A (v : Value) (es : List (ByteArray × Vd)) (n : Int) (w : World) (dig : Int → List Int) (T : KV) (TD : List Vd) (wl : List (ByteArray × Vd)) (lk : List (ByteArray × ByteArray)) (SM CN : Int) (hSM : SM = (sumS n.toNat T 0).1) (hCN : CN = ((min n.toNat T.length : Nat) : Int)) (hTD : TD = [⟨1, CN, emp⟩, hdV T, hdV (T.drop 1), ⟨1, SM, emp⟩]) (h0 : (sumS n.toNat T 0).2 = 0) (h : Rf w 4 v es.length (es.flatMap ecs)) (hT : T = mdG (es.take 400)) (hie : ∀ x ∈ es, inR x.2.i = true) (n1 : 1 ≤ n) (n2 : n ≤ 64) (hd : Digs dig w) (hf : efR dig T nmS 0 (xsS n) [] = ⟨1, 0, TD, wl, lk⟩) :
    Calls Tryz.prog 3 #[v, .int .i64 n] w fun e w' => e = .returned (.bool true) ∧ Below w.heap.size w w' := by
  have hTO : SOk T := by rw [hT]; exact mdG_ok _
  have hTl : T.length ≤ 400 := by rw [hT]; exact mdG_len es 400
  have hTi : ∀ x ∈ T, inR x.2.i = true := fun x hx => hie x (List.mem_of_mem_take (mdG_mem (by rw [← hT]; exact hx)))
  obtain ⟨TN, hTN⟩ : ∃ TN, TN = T.length := ⟨_, rfl⟩
  have HMD := hid (show Calls Tryz.prog 6 #[v] w fun e w' => ∃ a c, e = .returned (.agg #[.slice a TN c, .slice none 0 0]) ∧ Rf w' 4 (.slice a TN c) TN (T.flatMap ecs) ∧ Below w.heap.size w w' by rw [hTN, hT]; exact made_store v es w h)
  have HTN := hid hTN
  have HTl := hid (show TN ≤ 400 by rw [hTN]; exact hTl)
  have HT := hid hTO
  have HLK := hid (hTO.lok hTi)
  have HI := hid (show ∀ x ∈ xsS n, inR x.i = true from by intro x hx; simp at hx; rcases hx with rfl | rfl | rfl | rfl | rfl | rfl | rfl | rfl <;> exact (by decide : inR 0 = true))
  have HD := hid (fun (W : World) (hb : Below w.heap.size w W) => hd.below hb)
  have HF := hid hf
  have H0E := hid h0
  have HTD := hid hTD
  have HTI := hid hTi
  have HKn := hid (fun W => known_any W)
  have l1 : decide (n < 1) = false := by rw [decide_eq_false_iff_not]; omega
  have l2 : decide (64 < n) = false := by rw [decide_eq_false_iff_not]; omega
  have HSM := hid hSM; have HCN := hid hCN
  have KI := hid (show ∀ (ki : Int), (∃ (k : Nat) (h : k < T.length), ki = T[k].2.i) → inR ki = true from by rintro ki ⟨k, h, rfl⟩; exact hTi _ (List.getElem_mem h))
  have HN := hid (And.intro n1 n2)
  clear h hT hie hd hf hTO hTl hTi hTN h0 hTD n1 n2 hSM hCN
  go_enter Tryz.func3, Tryz.ntmps3
  go_upto_region 5 with (
    go_at_call 6
    refine HMD.out.mono ?_
    rintro e w1 ⟨a, c, rfl, hR1, hb1⟩
    have HP1 := hid (And.intro hR1 hb1)
    clear hR1 hb1)
  have HA := hid (show ∀ W, Inn (w4S w1 n a c TN) (.cells #[.string nmS, .int .i64 0, .slice (some ⟨w1.heap.size + 1, 0, none⟩) 8 8] 34) W → (W.cell? ⟨w1.heap.size + 1 + 1, 0, none⟩ = some (.string nmS) ∧ W.cell? ⟨w1.heap.size + 1 + 1, 1, none⟩ = some (.int .i64 0) ∧ W.cell? ⟨w1.heap.size + 1 + 1, 2, none⟩ = some (.slice (some ⟨w1.heap.size + 1, 0, none⟩) 8 8) ∧ W.cell? ⟨w1.heap.size, 0, none⟩ = some (.slice a TN c) ∧ W.cell? ⟨w1.heap.size, 1, none⟩ = some (.slice none 0 0)) ∧ Below w1.heap.size w1 W ∧ CodeAt W (.slice (some ⟨w1.heap.size + 1, 0, none⟩) 8 8) (xsS n) from w4S_all w1 n a c TN)
  have HST := hid (fun (W : World) (hI : Inn (w4S w1 n a c TN) (.cells #[.string nmS, .int .i64 0, .slice (some ⟨w1.heap.size + 1, 0, none⟩) 8 8] 34) W) => store_vl (.slice a TN c) T W (by have h1 := HP1.out.1.below (HA.out W hI).2.1; rw [HTN.out] at h1 ⊢; exact h1) (by rw [← HTN.out]; have := HTl.out; omega) HT.out)
  have HRUN := hid (fun (W : World) (p : Nat) (hI : Inn (w4S w1 n a c TN) (.cells #[.string nmS, .int .i64 0, .slice (some ⟨w1.heap.size + 1, 0, none⟩) 8 8] 34) W) (hV : VL W p T) => run_ef p (.slice none 0 0) (.slice (some ⟨w1.heap.size + 1, 0, none⟩) 8 8) nmS 0 (xsS n) [] W dig T (HA.out W hI).2.2 (va_nil W) (show 8 ≤ 1000 by decide) (show 0 ≤ 1000 by decide) HI.out (fun _ h => nomatch h) hV HLK.out (HD.out W (below_on HP1.out.2 (HA.out W hI).2.1)) _ HF.out)
  have H0 := hid (show Inn (w4S w1 n a c TN) (.cells #[.string nmS, .int .i64 0, .slice (some ⟨w1.heap.size + 1, 0, none⟩) 8 8] 34) ((w4S w1 n a c TN).alloc (.cells #[.string nmS, .int .i64 0, .slice (some ⟨w1.heap.size + 1, 0, none⟩) 8 8] 34)).drew from (Below.refl _ _).drew)
  have H01 := hid (show Inn (w4S w1 n a c TN) (.cells #[.string nmS, .int .i64 0, .slice (some ⟨w1.heap.size + 1, 0, none⟩) 8 8] 34) (((w4S w1 n a c TN).alloc (.cells #[.string nmS, .int .i64 0, .slice (some ⟨w1.heap.size + 1, 0, none⟩) 8 8] 34)).alloc (.cells #[.int .i64 0, .int .i64 0, .slice none 0 0, .slice none 0 0, .slice none 0 0] 40)).drew from Below.drew ((show Inn (w4S w1 n a c TN) (.cells #[.string nmS, .int .i64 0, .slice (some ⟨w1.heap.size + 1, 0, none⟩) 8 8] 34) ((w4S w1 n a c TN).alloc (.cells #[.string nmS, .int .i64 0, .slice (some ⟨w1.heap.size + 1, 0, none⟩) 8 8] 34)) from Below.refl _ _).al (.cells #[.int .i64 0, .int .i64 0, .slice none 0 0, .slice none 0 0, .slice none 0 0] 40)))
  have HS0 := hid (HST.out _ H0.out)
  have HS1 := hid (HST.out _ H01.out)
  dsimp only at HRUN
  change Code.wp _ _ _ _ ((w4S w1 n a c TN).alloc (.cells #[.string nmS, .int .i64 0, .slice (some ⟨w1.heap.size + 1, 0, none⟩) 8 8] 34))
  go_cut [7] from 35 (fun v7 wc => ∃ (r : Nat) (t1 t2 t3 : Option Addr) (k1 k2 k3 : Nat), v7 = .pointer (some ⟨r, 0, none⟩) ∧ Hid (EfB wc r 1 0 TD wl lk t1 t2 t3 k1 k2 k3 ∧ Inn (w4S w1 n a c TN) (.cells #[.string nmS, .int .i64 0, .slice (some ⟨w1.heap.size + 1, 0, none⟩) 8 8] 34) wc))
  case first =>
    go_region_held3 (fun W => W.cell? ⟨w1.heap.size + 1 + 1, 0, none⟩ = some (.string nmS) ∧ W.cell? ⟨w1.heap.size + 1 + 1, 1, none⟩ = some (.int .i64 0) ∧ W.cell? ⟨w1.heap.size + 1 + 1, 2, none⟩ = some (.slice (some ⟨w1.heap.size + 1, 0, none⟩) 8 8) ∧ W.cell? ⟨w1.heap.size, 0, none⟩ = some (.slice a TN c) ∧ W.cell? ⟨w1.heap.size, 1, none⟩ = some (.slice none 0 0))
      (first | with_reducible exact HA9.out | with_reducible exact (HA.out _ H9.out).1 | with_reducible exact (HA.out _ (H9.out.al _)).1 | with_reducible exact (HA.out _ H6.out).1 | with_reducible exact (HA.out _ (H6.out.al _)).1 | with_reducible exact (HA.out _ H0.out).1 | with_reducible exact (HA.out _ H01.out).1)
      (first
      | (go_at_call 8
         with_reducible refine HS0.out.mono ?_
         rintro e w6 ⟨p, rfl, hv6, hb6⟩
         have H6 := hid (H0.out.go hb6)
         have HR1 := hid (HRUN.out w6 p H6.out hv6)
         have HR2 := hid (HRUN.out (w6.alloc (.cells #[.int .i64 0, .int .i64 0, .slice none 0 0, .slice none 0 0, .slice none 0 0] 40)) p (H6.out.al (.cells #[.int .i64 0, .int .i64 0, .slice none 0 0, .slice none 0 0, .slice none 0 0] 40)) (hv6.below (below1 w6 (.cells #[.int .i64 0, .int .i64 0, .slice none 0 0, .slice none 0 0, .slice none 0 0] 40))))
         clear hv6 hb6 HS0 HS1)
      | (go_at_call 8
         with_reducible refine HS1.out.mono ?_
         rintro e w6 ⟨p, rfl, hv6, hb6⟩
         have H6 := hid (H01.out.go hb6)
         have HX := hid (box_mk1 hb6)
         have HR1 := hid (HRUN.out w6 p H6.out hv6)
         have HR2 := hid (HRUN.out (w6.alloc (.cells #[.int .i64 0, .int .i64 0, .slice none 0 0, .slice none 0 0, .slice none 0 0] 40)) p (H6.out.al (.cells #[.int .i64 0, .int .i64 0, .slice none 0 0, .slice none 0 0, .slice none 0 0] 40)) (hv6.below (below1 w6 (.cells #[.int .i64 0, .int .i64 0, .slice none 0 0, .slice none 0 0, .slice none 0 0] 40))))
         clear hv6 hb6 HS0 HS1)
      | (go_at_call 7
         with_reducible refine HR1.out.mono ?_
         rintro e w9 ⟨t1, k1, t2, k2, t3, k3, rfl, hE9, hb9⟩
         have H9 := hid (H6.out.go hb9)
         first | (replace HX := hid (HX.out.go hb9); have HA9 := hid (HA.out _ (H9.out.sets HX.out.2.2 (.int .i64 1) (.int .i64 0) (.slice t1 TD.length k1) (.slice t2 wl.length k2) (.slice t3 lk.length k3))).1; obtain ⟨x0, x1, x2, x3, x4, x5⟩ := cells5f HX.out.1; have hxz := HX.out.2.1) | skip
         have HE9 := hid hE9
         clear hb9 HR1 HR2 hE9)
      | (go_at_call 7
         with_reducible refine HR2.out.mono ?_
         rintro e w9 ⟨t1, k1, t2, k2, t3, k3, rfl, hE9, hb9⟩
         have H9 := hid ((H6.out.al (.cells #[.int .i64 0, .int .i64 0, .slice none 0 0, .slice none 0 0, .slice none 0 0] 40)).go hb9)
         have HX := hid (show Box w9 (w4S w1 n a c TN) w6.heap.size from Box.mk2 H6.out hb9)
         have HA9 := hid (HA.out _ (H9.out.sets HX.out.2.2 (.int .i64 1) (.int .i64 0) (.slice t1 TD.length k1) (.slice t2 wl.length k2) (.slice t3 lk.length k3))).1
         obtain ⟨x0, x1, x2, x3, x4, x5⟩ := cells5f HX.out.1
         have hxz := HX.out.2.1
         have HE9 := hid hE9
         clear hb9 HR1 HR2 hE9))
    all_goals
      first
      | (refine cut43 HX.out.1 ?_
         intro W hW hK
         have hIW : Inn (w4S w1 n a c TN) (.cells #[.string nmS, .int .i64 0, .slice (some ⟨w1.heap.size + 1, 0, none⟩) 8 8] 34) W := Below.trans H9.out (hK.below (Inn.sz H9.out) (fun k hk e => by have h1 := HX.out.2.2; omega))
         have hEB := HE9.out.into HX.out.1 hW hK
         clear hW hK)
      | (refine cutG (fun W => EfB W w9.heap.size 1 0 TD wl lk t1 t2 t3 k1 k2 k3 ∧ Inn (w4S w1 n a c TN) (.cells #[.string nmS, .int .i64 0, .slice (some ⟨w1.heap.size + 1, 0, none⟩) 8 8] 34) W) ⟨HE9.out.new, H9.out.al _⟩ ?_
         rintro W ⟨hEB, hIW⟩)
      go_wp2_with fail
      go_meet
      case rel => exact ⟨_, _, _, _, _, _, _, rfl, hid ⟨hEB, hIW⟩⟩
  case rest =>
    obtain ⟨r, t1, t2, t3, k1, k2, k3, rfl, HC⟩ := hcut
    rename World => W
    obtain ⟨hEB, hIW⟩ := HC.out
    obtain ⟨⟨-, -, -, s0, -⟩, hb1W, -⟩ := HA.out W hIW
    have HW := hid (And.intro (And.intro hEB (hp_lt hEB.bx)) (And.intro (show W.cell? ⟨w1.heap.size, 0, none⟩ = some (.slice a TN c) from s0) (And.intro (below_on HP1.out.2 hb1W) (HP1.out.1.below hb1W))))
    clear HC HS0 HS1 HST HRUN H0 H01 HA hEB hIW s0 hb1W HMD HD HI HF HLK HP1
    generalize w1.heap.size = B at *
    go_upto_block 0 with fail
    go_cut [8, 9] from 40 to 112 (fun v8 v9 wc => v8 = .int .i64 SM ∧ v9 = .int .i64 CN ∧ Hid (Below W.heap.size W wc))
    case first =>
      go_wp2_with fail
      go_loopw [8, 9] (fun v8 v9 wr => ∃ (k : Nat) (want : Int), k ≤ TN ∧ (k : Int) ≤ n ∧ v8 = .int .i64 want ∧ v9 = .int .i64 k ∧ Hid (Below W.heap.size W wr ∧ inR want = true ∧ sumS n.toNat T 0 = sumS (n.toNat - k) (T.drop k) want)) (fun _ v9 _ => TN - (intOf v9).toNat)
      case atStart => exact ⟨0, 0, Nat.zero_le _, by have := HN.out; omega, rfl, rfl, hid ⟨Below.refl _ _, by decide, by rw [List.drop_zero, Nat.sub_zero]⟩⟩
      case round =>
        obtain ⟨k, want, hk, hkn, rfl, rfl, HR⟩ := hrel
        have s0 : wr.cell? ⟨B, 0, none⟩ = some (.slice a TN c) := (HR.out.1.cell (World.block_lt_of_cell? _ _ HW.out.2.1)).trans HW.out.2.1
        by_cases hlt : k < TN
        · by_cases hn : (k : Int) < n
          · have hkT : k < T.length := by rw [← HTN.out]; exact hlt
            obtain ⟨b, off, cap, e, hcap, -, hcell⟩ := Rf.elem (f := ecs) (m := 4) (fun _ => rfl) (by omega) (by have h1 := HW.out.2.2.2.below HR.out.1; rw [HTN.out] at h1; exact h1) k hkT
            injection e with e1 e2 e3
            subst e1 e3
            obtain ⟨q1, q2, q3, q4⟩ := sum_go hkT hn HR.out.2.2 H0E.out
            obtain ⟨y, hy⟩ : ∃ y, y = T[k] := ⟨_, rfl⟩
            rw [← hy] at hcell q1 q2 q3 q4
            obtain ⟨yk, kk, ki, kt⟩ := y
            dsimp only at q1 q2 q3 q4
            subst q1 q2
            have c1 : wr.cell? ⟨b, off + k * 4 + 1, none⟩ = some (.int .i64 1) := hcell 1 _ rfl
            have c2 : wr.cell? ⟨b, off + k * 4 + 1 + 1, none⟩ = some (.int .i64 ki) := hcell 2 _ rfl
            have c3 : wr.cell? ⟨b, off + k * 4 + 1 + 2, none⟩ = some (.string emp) := hcell 3 _ rfl
            have i1 : (k : Int) < (TN : Int) := by omega
            have hiw := inR_iff.1 HR.out.2.1
            have his := inR_iff.1 q3
            have HQ := hid (And.intro q3 q4)
            have hw1 : IntKind.i64.wrap (want + ki) = want + ki := by rw [IntKind.wrap_i64]; omega
            have hkw : IntKind.i64.wrap ((k : Int) + 1) = (k : Int) + 1 := by rw [IntKind.wrap_i64]; have := HTl.out; omega
            have HM := hid (show Below W.heap.size W (wr.alloc (.cells #[.int .i64 1, .int .i64 ki, .string emp] 29)) from below_on HR.out.1 (below1 wr _))
            have HKK := hid (And.intro hk (And.intro hkn (And.intro hlt hn)))
            by_cases hp : 0 < ki
            · have hw2 : IntKind.i64.wrap (9223372036854775807 - ki) = 9223372036854775807 - ki := by rw [IntKind.wrap_i64]; have := inR_iff.1 (KI.out ki ⟨k, hkT, by rw [← hy]⟩); omega
              have b1 : decide ((0 : Int) < ki) = true := by rw [decide_eq_true_eq]; exact hp
              have b2 : decide (9223372036854775807 - ki < want) = false := by rw [decide_eq_false_iff_not]; omega
              have b3 : decide (ki < 0) = false := by rw [decide_eq_false_iff_not]; omega
              clear hp his hiw hy hcell q3 q4 hk hkn e2 hcap
              go_wp2_with fail
              go_roundw
              case rel => exact ⟨k + 1, want + ki, by have := HKK.out.2.2.1; omega, by have := HKK.out.2.2.2; push_cast; omega, rfl, by go_num, hid ⟨HM.out, HQ.out⟩⟩
              case measure => have := HKK.out.2.2.1; simp [intOf]; omega
            · by_cases hm : ki < 0
              · have hw3 : IntKind.i64.wrap (-9223372036854775808 - ki) = -9223372036854775808 - ki := by rw [IntKind.wrap_i64]; have := inR_iff.1 (KI.out ki ⟨k, hkT, by rw [← hy]⟩); omega
                have b1 : decide ((0 : Int) < ki) = false := by rw [decide_eq_false_iff_not]; omega
                have b3 : decide (ki < 0) = true := by rw [decide_eq_true_eq]; exact hm
                have b4 : decide (want < -9223372036854775808 - ki) = false := by rw [decide_eq_false_iff_not]; omega
                clear hp hm his hiw hy hcell q3 q4 hk hkn e2 hcap
                go_wp2_with fail
                go_roundw
                case rel => exact ⟨k + 1, want + ki, by have := HKK.out.2.2.1; omega, by have := HKK.out.2.2.2; push_cast; omega, rfl, by go_num, hid ⟨HM.out, HQ.out⟩⟩
                case measure => have := HKK.out.2.2.1; simp [intOf]; omega
              · have b1 : decide ((0 : Int) < ki) = false := by rw [decide_eq_false_iff_not]; omega
                have b3 : decide (ki < 0) = false := by rw [decide_eq_false_iff_not]; omega
                clear hp hm his hiw hy hcell q3 q4 hk hkn e2 hcap
                go_wp2_with fail
                go_roundw
                case rel => exact ⟨k + 1, want + ki, by have := HKK.out.2.2.1; omega, by have := HKK.out.2.2.2; push_cast; omega, rfl, by go_num, hid ⟨HM.out, HQ.out⟩⟩
                case measure => have := HKK.out.2.2.1; simp [intOf]; omega
          · obtain ⟨eS, eC⟩ := sum_end1 (T := T) (by rw [← HTN.out]; omega) hkn hn HR.out.2.2
            have i1 : (k : Int) < (TN : Int) := by omega
            have i2 : ¬ (k : Int) < n := hn
            have HE := hid (And.intro (HSM.out.trans eS) (HCN.out.trans eC))
            clear hn hkn hk eS eC
            go_wp2_with fail
            go_meet
            case rel => exact ⟨by rw [HE.out.1], by rw [HE.out.2], hid HR.out.1⟩
        · obtain ⟨eS, eC⟩ := sum_end2 (T := T) (by rw [← HTN.out]; omega) hkn HR.out.2.2
          have i1 : ¬ (k : Int) < (TN : Int) := by omega
          have HE := hid (And.intro (HSM.out.trans eS) (HCN.out.trans eC))
          clear hlt hkn hk eS eC
          go_wp2_with fail
          go_meet
          case rel => exact ⟨by rw [HE.out.1], by rw [HE.out.2], hid HR.out.1⟩
    case rest =>
      obtain ⟨rfl, rfl, HC⟩ := hcut
      have hE2 := HW.out.1.1.below HC.out
      have s0 : wc.cell? ⟨B, 0, none⟩ = some (.slice a TN c) := (HC.out.cell (World.block_lt_of_cell? _ _ HW.out.2.1)).trans HW.out.2.1
      obtain ⟨r0, r1, r2, r3, r4, r5⟩ := cells5f hE2.bx
      rw [show TD.length = 4 from by rw [HTD.out]; rfl] at r2
      obtain ⟨x0, x1, x2, x3, b1, off1, ht1, hk14, hT4, e0, e1, e2, e3⟩ := told4 hE2 HTD.out
      subst ht1
      have hHS := hid (show ∀ W, Below wc.heap.size wc W → W.cell? ⟨B, 0, none⟩ = some (.slice a TN c) ∧ W.cell? ⟨r, 0, none⟩ = some (.int .i64 1) ∧ W.cell? ⟨r, 2, none⟩ = some (.slice (some ⟨b1, off1, none⟩) 4 k1) from fun W hb => ⟨(hb.cell (World.block_lt_of_cell? _ _ s0)).trans s0, (hb.cell (World.block_lt_of_cell? _ _ r0)).trans r0, (hb.cell (World.block_lt_of_cell? _ _ r2)).trans r2⟩)
      have HFF := hid (And.intro hT4 (And.intro (And.intro e0 (And.intro e1 (And.intro e2 e3))) (And.intro (HW.out.2.2.1.trans (HC.out.mono HW.out.2.2.1.size)) (HW.out.2.2.2.below HC.out))))
      have hk4 : (4 : Nat) ≤ k1 := hk14
      clear hT4 e0 e1 e2 e3 hE2 HW HC r1 r3 r4 r5 hk14
      by_cases hT1 : 1 < TN
      · as_aux_lemma =>
        have t0 : 0 < T.length := by rw [← HTN.out]; omega
        have t1 : 1 < T.length := by rw [← HTN.out]; exact hT1
        obtain ⟨b2, o2, cp0, ee, hcap0, -, hc0⟩ := Rf.elem (f := ecs) (m := 4) (fun _ => rfl) (by omega) (by have h1 := HFF.out.2.2.2; rw [HTN.out] at h1; exact h1) 0 (show 0 < T.length by rw [← HTN.out]; omega)
        injection ee with ee1 _ ee3
        subst ee1 ee3
        have g0 : wc.cell? ⟨b2, o2, none⟩ = some (.string T[0].1) := hc0 0 _ rfl
        have HG0 := hid (show ∀ W, Below wc.heap.size wc W → W.cell? ⟨b2, o2, none⟩ = some (.string T[0].1) from fun W hb => (hb.cell (World.block_lt_of_cell? _ _ g0)).trans g0)
        clear hc0 g0
        have g1 : wc.cell? ⟨b2, o2 + 4, none⟩ = some (.string T[1].1) := by
          obtain ⟨b3, o3, cp1, ee, -, -, hc1⟩ := Rf.elem (f := ecs) (m := 4) (fun _ => rfl) (by omega) (by have h1 := HFF.out.2.2.2; rw [HTN.out] at h1; exact h1) 1 (show 1 < T.length by rw [← HTN.out]; exact hT1)
          injection ee with ee1 _ ee3
          injection ee1 with ee1
          injection ee1 with ee1 ee2 _
          subst ee1 ee2
          exact hc1 0 _ rfl
        have HG1 := hid (show ∀ W, Below wc.heap.size wc W → W.cell? ⟨b2, o2 + 4, none⟩ = some (.string T[1].1) from fun W hb => (hb.cell (World.block_lt_of_cell? _ _ g1)).trans g1)
        clear g1
        have j0 : decide ((0 : Int) < (TN : Int)) = true := by rw [decide_eq_true_eq]; omega
        have j0n : 0 < TN := by omega
        have j1 : decide ((1 : Int) < (TN : Int)) = true := by rw [decide_eq_true_eq]; omega
        have j1n : 1 < TN := hT1
        have HV := hid (And.intro (hdV_get t0) (hdV_drop t1))
        obtain ⟨y0, hy0⟩ : ∃ y, y = T[0].1 := ⟨_, rfl⟩
        obtain ⟨y1, hy1⟩ : ∃ y, y = T[1].1 := ⟨_, rfl⟩
        rw [← hy0] at HG0
        rw [← hy1] at HG1
        rw [← hy0, ← hy1] at HV
        clear hy0 hy1 t0 t1 hT1
        go_upto_region 20 with fail
        refine cutG (FB wc z0 z0) (fb_new wc) ?_
        intro W5 h5
        obtain ⟨s5, -⟩ := hHS.out W5 h5.bl
        clear s0 r0 r2
        have gg := HG0.out W5 h5.bl
        have H5 := hid h5
        clear h5
        go_upto_region 22 with (
          go_at_call 9
          refine (text_any y0 _).mono ?_
          rintro e w6 ⟨rfl, hb6⟩
          have H6 := hid (H5.out.go hb6)
          obtain ⟨f0, f1, f2, f3⟩ := vfacts H6.out.b1
          clear hb6)
        refine cutG (FB wc ⟨2, 0, y0⟩ z0) (H6.out.set1 ⟨2, 0, y0⟩) ?_
        clear f0 f1 f2 f3 gg s5
        intro W7 h7
        obtain ⟨f0, f1, f2, f3⟩ := vfacts h7.b1
        obtain ⟨f4, f5, f6, f7⟩ := vfacts h7.b2
        have H7 := hid h7
        clear h7
        go_upto_region 23 with fail
        refine cutG (FB wc ⟨2, 0, y0⟩ ⟨2, 0, y0⟩) (H7.out.set2 ⟨2, 0, y0⟩) ?_
        clear f0 f1 f2 f3 f4 f5 f6 f7
        intro W8 h8
        obtain ⟨s8, -⟩ := hHS.out W8 h8.bl
        have gg := HG1.out W8 h8.bl
        have H8 := hid h8
        clear h8
        go_upto_region 26 with (
          go_at_call 9
          refine (text_any y1 _).mono ?_
          rintro e w9 ⟨rfl, hb9⟩
          have H9 := hid (H8.out.go hb9)
          obtain ⟨f4, f5, f6, f7⟩ := vfacts H9.out.b2
          clear hb9)
        refine cutG (FB wc ⟨2, 0, y0⟩ ⟨2, 0, y1⟩) (H9.out.set2 ⟨2, 0, y1⟩) ?_
        clear f4 f5 f6 f7 gg s8
        intro W9 h9
        have HH := hid (show FB wc (hdV T) (hdV (T.drop 1)) W9 by rw [HV.out.1, HV.out.2]; exact h9)
        clear h9 HV
        obtain ⟨⟨uk, ui, ut⟩, hu⟩ : ∃ u, u = hdV T := ⟨_, rfl⟩
        obtain ⟨⟨vk, vi, vt⟩, hv⟩ : ∃ v, v = hdV (T.drop 1) := ⟨_, rfl⟩
        obtain ⟨q0, q1, q2, q3⟩ := HFF.out.2.1
        rw [← hu] at q1 HH
        rw [← hv] at q2 HH
        clear hu hv
        have hT4 := HFF.out.1.below (HH.out.bl)
        obtain ⟨x0k, x0i, x0t⟩ := x0
        obtain ⟨x1k, x1i, x1t⟩ := x1
        obtain ⟨x2k, x2i, x2t⟩ := x2
        obtain ⟨x3k, x3i, x3t⟩ := x3
        have E0 := eql29 x0k x0i x0t 1 CN emp (congrArg Vd.k q0) (congrArg Vd.i q0) (congrArg Vd.t q0)
        have E1 := eql29 x1k x1i x1t uk ui ut (congrArg Vd.k q1) (congrArg Vd.i q1) (congrArg Vd.t q1)
        have E2 := eql29 x2k x2i x2t vk vi vt (congrArg Vd.k q2) (congrArg Vd.i q2) (congrArg Vd.t q2)
        have E3 := eql29 x3k x3i x3t 1 SM emp (congrArg Vd.k q3) (congrArg Vd.i q3) (congrArg Vd.t q3)
        clear q0 q1 q2 q3
        obtain ⟨s9, -, r2⟩ := hHS.out W9 HH.out.bl
        have HS := hid (show ∀ W, Below W9.heap.size W9 W → (W.cell? ⟨b1, off1, none⟩ = some (.int .i64 x0k) ∧ W.cell? ⟨b1, off1 + 1, none⟩ = some (.int .i64 x0i) ∧ W.cell? ⟨b1, off1 + 2, none⟩ = some (.string x0t) ∧ W.cell? ⟨b1, off1 + 3, none⟩ = some (.int .i64 x1k) ∧ W.cell? ⟨b1, off1 + 3 + 1, none⟩ = some (.int .i64 x1i) ∧ W.cell? ⟨b1, off1 + 3 + 2, none⟩ = some (.string x1t) ∧ W.cell? ⟨b1, off1 + 6, none⟩ = some (.int .i64 x2k) ∧ W.cell? ⟨b1, off1 + 6 + 1, none⟩ = some (.int .i64 x2i) ∧ W.cell? ⟨b1, off1 + 6 + 2, none⟩ = some (.string x2t) ∧ W.cell? ⟨b1, off1 + 9, none⟩ = some (.int .i64 x3k) ∧ W.cell? ⟨b1, off1 + 9 + 1, none⟩ = some (.int .i64 x3i) ∧ W.cell? ⟨b1, off1 + 9 + 2, none⟩ = some (.string x3t) ∧ W.cell? ⟨wc.heap.size, 0, none⟩ = some (.int .i64 uk) ∧ W.cell? ⟨wc.heap.size, 1, none⟩ = some (.int .i64 ui) ∧ W.cell? ⟨wc.heap.size, 2, none⟩ = some (.string ut) ∧ W.cell? ⟨wc.heap.size + 1, 0, none⟩ = some (.int .i64 vk) ∧ W.cell? ⟨wc.heap.size + 1, 1, none⟩ = some (.int .i64 vi) ∧ W.cell? ⟨wc.heap.size + 1, 2, none⟩ = some (.string vt)) from fun W hb => by
          obtain ⟨⟨a1, a2, a3⟩, ⟨a4, a5, a6⟩, ⟨a7, a8, a9⟩, ⟨a10, a11, a12⟩⟩ := hT4.below hb
          obtain ⟨d1, d2, d3, -⟩ := vfacts (HH.out.go hb).b1
          obtain ⟨d4, d5, d6, -⟩ := vfacts (HH.out.go hb).b2
          exact ⟨a1, a2, a3, a4, a5, a6, a7, a8, a9, a10, a11, a12, d1, d2, d3, d4, d5, d6⟩)
        have HBW := hid (below_on HFF.out.2.2.1 HH.out.bl)
        clear hT4
        go_upto_region 27 with fail
        clear s9 r2
        go_region_held3 (fun W => W.cell? ⟨b1, off1, none⟩ = some (.int .i64 x0k) ∧ W.cell? ⟨b1, off1 + 1, none⟩ = some (.int .i64 x0i) ∧ W.cell? ⟨b1, off1 + 2, none⟩ = some (.string x0t) ∧ W.cell? ⟨b1, off1 + 3, none⟩ = some (.int .i64 x1k) ∧ W.cell? ⟨b1, off1 + 3 + 1, none⟩ = some (.int .i64 x1i) ∧ W.cell? ⟨b1, off1 + 3 + 2, none⟩ = some (.string x1t) ∧ W.cell? ⟨b1, off1 + 6, none⟩ = some (.int .i64 x2k) ∧ W.cell? ⟨b1, off1 + 6 + 1, none⟩ = some (.int .i64 x2i) ∧ W.cell? ⟨b1, off1 + 6 + 2, none⟩ = some (.string x2t) ∧ W.cell? ⟨b1, off1 + 9, none⟩ = some (.int .i64 x3k) ∧ W.cell? ⟨b1, off1 + 9 + 1, none⟩ = some (.int .i64 x3i) ∧ W.cell? ⟨b1, off1 + 9 + 2, none⟩ = some (.string x3t) ∧ W.cell? ⟨wc.heap.size, 0, none⟩ = some (.int .i64 uk) ∧ W.cell? ⟨wc.heap.size, 1, none⟩ = some (.int .i64 ui) ∧ W.cell? ⟨wc.heap.size, 2, none⟩ = some (.string ut) ∧ W.cell? ⟨wc.heap.size + 1, 0, none⟩ = some (.int .i64 vk) ∧ W.cell? ⟨wc.heap.size + 1, 1, none⟩ = some (.int .i64 vi) ∧ W.cell? ⟨wc.heap.size + 1, 2, none⟩ = some (.string vt))
          (first | with_reducible exact HS.out _ H3.out | with_reducible exact HS.out _ H2.out | with_reducible exact HS.out _ H1.out | exact HS.out _ ((Below.refl _ _).drew))
          (first
          | (go_at_call 10
             refine (number_any CN _).mono ?_
             rintro e w1' ⟨rfl, hb⟩
             have H1 := hid (show Below W9.heap.size W9 w1' from below_on ((Below.refl _ _).drew) hb)
             clear hb)
          | (go_at_call 10
             refine (number_any SM _).mono ?_
             rintro e w2' ⟨rfl, hb⟩
             have H2 := hid (show Below W9.heap.size W9 w2' from below_on H1.out hb)
             clear hb)
          | (go_at_call 5
             refine (HKn.out _).mono ?_
             rintro e w3' ⟨rfl, hb⟩
             have H3 := hid (show Below W9.heap.size W9 w3' from below_on H2.out hb)
             clear hb))
        go_wp2_with fail
        go_ret
        exact ⟨rfl, below_on HBW.out H3.out⟩
      · as_aux_lemma =>
        by_cases hT0 : 0 < TN
        · as_aux_lemma =>
          have t0 : 0 < T.length := by rw [← HTN.out]; exact hT0
          obtain ⟨b2, o2, cp0, ee, hcap0, -, hc0⟩ := Rf.elem (f := ecs) (m := 4) (fun _ => rfl) (by omega) (by have h1 := HFF.out.2.2.2; rw [HTN.out] at h1; exact h1) 0 (show 0 < T.length by rw [← HTN.out]; omega)
          injection ee with ee1 _ ee3
          subst ee1 ee3
          have g0 : wc.cell? ⟨b2, o2, none⟩ = some (.string T[0].1) := hc0 0 _ rfl
          have HG0 := hid (show ∀ W, Below wc.heap.size wc W → W.cell? ⟨b2, o2, none⟩ = some (.string T[0].1) from fun W hb => (hb.cell (World.block_lt_of_cell? _ _ g0)).trans g0)
          clear hc0 g0
          have j0 : decide ((0 : Int) < (TN : Int)) = true := by rw [decide_eq_true_eq]; omega
          have j0n : 0 < TN := hT0
          have j1 : decide ((1 : Int) < (TN : Int)) = false := by rw [decide_eq_false_iff_not]; omega
          have j1n : decide (1 < TN) = false := by rw [decide_eq_false_iff_not]; exact hT1
          have HV := hid (And.intro (hdV_get t0) (hdV_none (T := T) (by rw [← HTN.out]; omega)))
          obtain ⟨y0, hy0⟩ : ∃ y, y = T[0].1 := ⟨_, rfl⟩
          rw [← hy0] at HG0
          rw [← hy0] at HV
          clear hy0 t0 hT1 hT0
          go_upto_region 20 with fail
          refine cutG (FB wc z0 z0) (fb_new wc) ?_
          intro W5 h5
          obtain ⟨s5, -⟩ := hHS.out W5 h5.bl
          clear s0 r0 r2
          have gg := HG0.out W5 h5.bl
          have H5 := hid h5
          clear h5
          go_upto_region 22 with (
            go_at_call 9
            refine (text_any y0 _).mono ?_
            rintro e w6 ⟨rfl, hb6⟩
            have H6 := hid (H5.out.go hb6)
            obtain ⟨f0, f1, f2, f3⟩ := vfacts H6.out.b1
            clear hb6)
          refine cutG (FB wc ⟨2, 0, y0⟩ z0) (H6.out.set1 ⟨2, 0, y0⟩) ?_
          clear f0 f1 f2 f3 gg s5
          intro W7 h7
          obtain ⟨f0, f1, f2, f3⟩ := vfacts h7.b1
          obtain ⟨f4, f5, f6, f7⟩ := vfacts h7.b2
          have H7 := hid h7
          clear h7
          go_upto_region 23 with fail
          refine cutG (FB wc ⟨2, 0, y0⟩ ⟨2, 0, y0⟩) (H7.out.set2 ⟨2, 0, y0⟩) ?_
          clear f0 f1 f2 f3 f4 f5 f6 f7
          intro W8 h8
          obtain ⟨s8, -⟩ := hHS.out W8 h8.bl
          obtain ⟨f4, f5, f6, f7⟩ := vfacts h8.b2
          have H8 := hid h8
          clear h8
          go_upto_region 26 with fail
          refine cutG (FB wc ⟨2, 0, y0⟩ z0) (H8.out.set2 z0) ?_
          clear f4 f5 f6 f7 s8
          intro W9 h9
          have HH := hid (show FB wc (hdV T) (hdV (T.drop 1)) W9 by rw [HV.out.1, HV.out.2]; exact h9)
          clear h9 HV
          obtain ⟨⟨uk, ui, ut⟩, hu⟩ : ∃ u, u = hdV T := ⟨_, rfl⟩
          obtain ⟨⟨vk, vi, vt⟩, hv⟩ : ∃ v, v = hdV (T.drop 1) := ⟨_, rfl⟩
          obtain ⟨q0, q1, q2, q3⟩ := HFF.out.2.1
          rw [← hu] at q1 HH
          rw [← hv] at q2 HH
          clear hu hv
          have hT4 := HFF.out.1.below (HH.out.bl)
          obtain ⟨x0k, x0i, x0t⟩ := x0
          obtain ⟨x1k, x1i, x1t⟩ := x1
          obtain ⟨x2k, x2i, x2t⟩ := x2
          obtain ⟨x3k, x3i, x3t⟩ := x3
          have E0 := eql29 x0k x0i x0t 1 CN emp (congrArg Vd.k q0) (congrArg Vd.i q0) (congrArg Vd.t q0)
          have E1 := eql29 x1k x1i x1t uk ui ut (congrArg Vd.k q1) (congrArg Vd.i q1) (congrArg Vd.t q1)
          have E2 := eql29 x2k x2i x2t vk vi vt (congrArg Vd.k q2) (congrArg Vd.i q2) (congrArg Vd.t q2)
          have E3 := eql29 x3k x3i x3t 1 SM emp (congrArg Vd.k q3) (congrArg Vd.i q3) (congrArg Vd.t q3)
          clear q0 q1 q2 q3
          obtain ⟨s9, -, r2⟩ := hHS.out W9 HH.out.bl
          have HS := hid (show ∀ W, Below W9.heap.size W9 W → (W.cell? ⟨b1, off1, none⟩ = some (.int .i64 x0k) ∧ W.cell? ⟨b1, off1 + 1, none⟩ = some (.int .i64 x0i) ∧ W.cell? ⟨b1, off1 + 2, none⟩ = some (.string x0t) ∧ W.cell? ⟨b1, off1 + 3, none⟩ = some (.int .i64 x1k) ∧ W.cell? ⟨b1, off1 + 3 + 1, none⟩ = some (.int .i64 x1i) ∧ W.cell? ⟨b1, off1 + 3 + 2, none⟩ = some (.string x1t) ∧ W.cell? ⟨b1, off1 + 6, none⟩ = some (.int .i64 x2k) ∧ W.cell? ⟨b1, off1 + 6 + 1, none⟩ = some (.int .i64 x2i) ∧ W.cell? ⟨b1, off1 + 6 + 2, none⟩ = some (.string x2t) ∧ W.cell? ⟨b1, off1 + 9, none⟩ = some (.int .i64 x3k) ∧ W.cell? ⟨b1, off1 + 9 + 1, none⟩ = some (.int .i64 x3i) ∧ W.cell? ⟨b1, off1 + 9 + 2, none⟩ = some (.string x3t) ∧ W.cell? ⟨wc.heap.size, 0, none⟩ = some (.int .i64 uk) ∧ W.cell? ⟨wc.heap.size, 1, none⟩ = some (.int .i64 ui) ∧ W.cell? ⟨wc.heap.size, 2, none⟩ = some (.string ut) ∧ W.cell? ⟨wc.heap.size + 1, 0, none⟩ = some (.int .i64 vk) ∧ W.cell? ⟨wc.heap.size + 1, 1, none⟩ = some (.int .i64 vi) ∧ W.cell? ⟨wc.heap.size + 1, 2, none⟩ = some (.string vt)) from fun W hb => by
            obtain ⟨⟨a1, a2, a3⟩, ⟨a4, a5, a6⟩, ⟨a7, a8, a9⟩, ⟨a10, a11, a12⟩⟩ := hT4.below hb
            obtain ⟨d1, d2, d3, -⟩ := vfacts (HH.out.go hb).b1
            obtain ⟨d4, d5, d6, -⟩ := vfacts (HH.out.go hb).b2
            exact ⟨a1, a2, a3, a4, a5, a6, a7, a8, a9, a10, a11, a12, d1, d2, d3, d4, d5, d6⟩)
          have HBW := hid (below_on HFF.out.2.2.1 HH.out.bl)
          clear hT4
          go_upto_region 27 with fail
          clear s9 r2
          go_region_held3 (fun W => W.cell? ⟨b1, off1, none⟩ = some (.int .i64 x0k) ∧ W.cell? ⟨b1, off1 + 1, none⟩ = some (.int .i64 x0i) ∧ W.cell? ⟨b1, off1 + 2, none⟩ = some (.string x0t) ∧ W.cell? ⟨b1, off1 + 3, none⟩ = some (.int .i64 x1k) ∧ W.cell? ⟨b1, off1 + 3 + 1, none⟩ = some (.int .i64 x1i) ∧ W.cell? ⟨b1, off1 + 3 + 2, none⟩ = some (.string x1t) ∧ W.cell? ⟨b1, off1 + 6, none⟩ = some (.int .i64 x2k) ∧ W.cell? ⟨b1, off1 + 6 + 1, none⟩ = some (.int .i64 x2i) ∧ W.cell? ⟨b1, off1 + 6 + 2, none⟩ = some (.string x2t) ∧ W.cell? ⟨b1, off1 + 9, none⟩ = some (.int .i64 x3k) ∧ W.cell? ⟨b1, off1 + 9 + 1, none⟩ = some (.int .i64 x3i) ∧ W.cell? ⟨b1, off1 + 9 + 2, none⟩ = some (.string x3t) ∧ W.cell? ⟨wc.heap.size, 0, none⟩ = some (.int .i64 uk) ∧ W.cell? ⟨wc.heap.size, 1, none⟩ = some (.int .i64 ui) ∧ W.cell? ⟨wc.heap.size, 2, none⟩ = some (.string ut) ∧ W.cell? ⟨wc.heap.size + 1, 0, none⟩ = some (.int .i64 vk) ∧ W.cell? ⟨wc.heap.size + 1, 1, none⟩ = some (.int .i64 vi) ∧ W.cell? ⟨wc.heap.size + 1, 2, none⟩ = some (.string vt))
            (first | with_reducible exact HS.out _ H3.out | with_reducible exact HS.out _ H2.out | with_reducible exact HS.out _ H1.out | exact HS.out _ ((Below.refl _ _).drew))
            (first
            | (go_at_call 10
               refine (number_any CN _).mono ?_
               rintro e w1' ⟨rfl, hb⟩
               have H1 := hid (show Below W9.heap.size W9 w1' from below_on ((Below.refl _ _).drew) hb)
               clear hb)
            | (go_at_call 10
               refine (number_any SM _).mono ?_
               rintro e w2' ⟨rfl, hb⟩
               have H2 := hid (show Below W9.heap.size W9 w2' from below_on H1.out hb)
               clear hb)
            | (go_at_call 5
               refine (HKn.out _).mono ?_
               rintro e w3' ⟨rfl, hb⟩
               have H3 := hid (show Below W9.heap.size W9 w3' from below_on H2.out hb)
               clear hb))
          go_wp2_with fail
          go_ret
          exact ⟨rfl, below_on HBW.out H3.out⟩
        · as_aux_lemma =>
          have j0 : decide ((0 : Int) < (TN : Int)) = false := by rw [decide_eq_false_iff_not]; omega
          have j0n : decide (0 < TN) = false := by rw [decide_eq_false_iff_not]; exact hT0
          have j1 : decide ((1 : Int) < (TN : Int)) = false := by rw [decide_eq_false_iff_not]; omega
          have j1n : decide (1 < TN) = false := by rw [decide_eq_false_iff_not]; exact hT1
          have HV := hid (And.intro (hdV_nil (T := T) (by rw [← HTN.out]; omega)) (hdV_none (T := T) (by rw [← HTN.out]; omega)))
          clear hT1 hT0
          go_upto_region 20 with fail
          refine cutG (FB wc z0 z0) (fb_new wc) ?_
          intro W5 h5
          obtain ⟨s5, -⟩ := hHS.out W5 h5.bl
          clear s0 r0 r2
          have h8 := h5
          have s8 := s5
          clear s5
          obtain ⟨f4, f5, f6, f7⟩ := vfacts h8.b2
          have H8 := hid h8
          clear h8
          go_upto_region 26 with fail
          refine cutG (FB wc z0 z0) (H8.out.set2 z0) ?_
          clear f4 f5 f6 f7 s8
          intro W9 h9
          have HH := hid (show FB wc (hdV T) (hdV (T.drop 1)) W9 by rw [HV.out.1, HV.out.2]; exact h9)
          clear h9 HV
          obtain ⟨⟨uk, ui, ut⟩, hu⟩ : ∃ u, u = hdV T := ⟨_, rfl⟩
          obtain ⟨⟨vk, vi, vt⟩, hv⟩ : ∃ v, v = hdV (T.drop 1) := ⟨_, rfl⟩
          obtain ⟨q0, q1, q2, q3⟩ := HFF.out.2.1
          rw [← hu] at q1 HH
          rw [← hv] at q2 HH
          clear hu hv
          have hT4 := HFF.out.1.below (HH.out.bl)
          obtain ⟨x0k, x0i, x0t⟩ := x0
          obtain ⟨x1k, x1i, x1t⟩ := x1
          obtain ⟨x2k, x2i, x2t⟩ := x2
          obtain ⟨x3k, x3i, x3t⟩ := x3
          have E0 := eql29 x0k x0i x0t 1 CN emp (congrArg Vd.k q0) (congrArg Vd.i q0) (congrArg Vd.t q0)
          have E1 := eql29 x1k x1i x1t uk ui ut (congrArg Vd.k q1) (congrArg Vd.i q1) (congrArg Vd.t q1)
          have E2 := eql29 x2k x2i x2t vk vi vt (congrArg Vd.k q2) (congrArg Vd.i q2) (congrArg Vd.t q2)
          have E3 := eql29 x3k x3i x3t 1 SM emp (congrArg Vd.k q3) (congrArg Vd.i q3) (congrArg Vd.t q3)
          clear q0 q1 q2 q3
          obtain ⟨s9, -, r2⟩ := hHS.out W9 HH.out.bl
          have HS := hid (show ∀ W, Below W9.heap.size W9 W → (W.cell? ⟨b1, off1, none⟩ = some (.int .i64 x0k) ∧ W.cell? ⟨b1, off1 + 1, none⟩ = some (.int .i64 x0i) ∧ W.cell? ⟨b1, off1 + 2, none⟩ = some (.string x0t) ∧ W.cell? ⟨b1, off1 + 3, none⟩ = some (.int .i64 x1k) ∧ W.cell? ⟨b1, off1 + 3 + 1, none⟩ = some (.int .i64 x1i) ∧ W.cell? ⟨b1, off1 + 3 + 2, none⟩ = some (.string x1t) ∧ W.cell? ⟨b1, off1 + 6, none⟩ = some (.int .i64 x2k) ∧ W.cell? ⟨b1, off1 + 6 + 1, none⟩ = some (.int .i64 x2i) ∧ W.cell? ⟨b1, off1 + 6 + 2, none⟩ = some (.string x2t) ∧ W.cell? ⟨b1, off1 + 9, none⟩ = some (.int .i64 x3k) ∧ W.cell? ⟨b1, off1 + 9 + 1, none⟩ = some (.int .i64 x3i) ∧ W.cell? ⟨b1, off1 + 9 + 2, none⟩ = some (.string x3t) ∧ W.cell? ⟨wc.heap.size, 0, none⟩ = some (.int .i64 uk) ∧ W.cell? ⟨wc.heap.size, 1, none⟩ = some (.int .i64 ui) ∧ W.cell? ⟨wc.heap.size, 2, none⟩ = some (.string ut) ∧ W.cell? ⟨wc.heap.size + 1, 0, none⟩ = some (.int .i64 vk) ∧ W.cell? ⟨wc.heap.size + 1, 1, none⟩ = some (.int .i64 vi) ∧ W.cell? ⟨wc.heap.size + 1, 2, none⟩ = some (.string vt)) from fun W hb => by
            obtain ⟨⟨a1, a2, a3⟩, ⟨a4, a5, a6⟩, ⟨a7, a8, a9⟩, ⟨a10, a11, a12⟩⟩ := hT4.below hb
            obtain ⟨d1, d2, d3, -⟩ := vfacts (HH.out.go hb).b1
            obtain ⟨d4, d5, d6, -⟩ := vfacts (HH.out.go hb).b2
            exact ⟨a1, a2, a3, a4, a5, a6, a7, a8, a9, a10, a11, a12, d1, d2, d3, d4, d5, d6⟩)
          have HBW := hid (below_on HFF.out.2.2.1 HH.out.bl)
          clear hT4
          go_upto_region 27 with fail
          clear s9 r2
          go_region_held3 (fun W => W.cell? ⟨b1, off1, none⟩ = some (.int .i64 x0k) ∧ W.cell? ⟨b1, off1 + 1, none⟩ = some (.int .i64 x0i) ∧ W.cell? ⟨b1, off1 + 2, none⟩ = some (.string x0t) ∧ W.cell? ⟨b1, off1 + 3, none⟩ = some (.int .i64 x1k) ∧ W.cell? ⟨b1, off1 + 3 + 1, none⟩ = some (.int .i64 x1i) ∧ W.cell? ⟨b1, off1 + 3 + 2, none⟩ = some (.string x1t) ∧ W.cell? ⟨b1, off1 + 6, none⟩ = some (.int .i64 x2k) ∧ W.cell? ⟨b1, off1 + 6 + 1, none⟩ = some (.int .i64 x2i) ∧ W.cell? ⟨b1, off1 + 6 + 2, none⟩ = some (.string x2t) ∧ W.cell? ⟨b1, off1 + 9, none⟩ = some (.int .i64 x3k) ∧ W.cell? ⟨b1, off1 + 9 + 1, none⟩ = some (.int .i64 x3i) ∧ W.cell? ⟨b1, off1 + 9 + 2, none⟩ = some (.string x3t) ∧ W.cell? ⟨wc.heap.size, 0, none⟩ = some (.int .i64 uk) ∧ W.cell? ⟨wc.heap.size, 1, none⟩ = some (.int .i64 ui) ∧ W.cell? ⟨wc.heap.size, 2, none⟩ = some (.string ut) ∧ W.cell? ⟨wc.heap.size + 1, 0, none⟩ = some (.int .i64 vk) ∧ W.cell? ⟨wc.heap.size + 1, 1, none⟩ = some (.int .i64 vi) ∧ W.cell? ⟨wc.heap.size + 1, 2, none⟩ = some (.string vt))
            (first | with_reducible exact HS.out _ H3.out | with_reducible exact HS.out _ H2.out | with_reducible exact HS.out _ H1.out | exact HS.out _ ((Below.refl _ _).drew))
            (first
            | (go_at_call 10
               refine (number_any CN _).mono ?_
               rintro e w1' ⟨rfl, hb⟩
               have H1 := hid (show Below W9.heap.size W9 w1' from below_on ((Below.refl _ _).drew) hb)
               clear hb)
            | (go_at_call 10
               refine (number_any SM _).mono ?_
               rintro e w2' ⟨rfl, hb⟩
               have H2 := hid (show Below W9.heap.size W9 w2' from below_on H1.out hb)
               clear hb)
            | (go_at_call 5
               refine (HKn.out _).mono ?_
               rintro e w3' ⟨rfl, hb⟩
               have H3 := hid (show Below W9.heap.size W9 w3' from below_on H2.out hb)
               clear hb))
          go_wp2_with fail
          go_ret
          exact ⟨rfl, below_on HBW.out H3.out⟩

end Go.Proofs.YthcoigbkdbkojabGreat
