import Derived.Test.YthcoigbkdbkojabGreatK40
import Derived.Test.YthcoigbkdbkojabGreatK41
import Derived.Test.YthcoigbkdbkojabGreatRows
import Derived.Test.YthcoigbkdbkojabGreatK31
import Derived.Test.YthcoigbkdbkojabGreatK39
import Derived.HandedShaped
import Derived.ProofKit
import Derived.OpenShut
import Derived.ShutString
import Derived.ChangeOld
namespace Go.Proofs.YthcoigbkdbkojabGreat
open Go.RowKit Go.MapKept
open V (hp_new hp_lt hp_below hp_alloc kl)

set_option maxRecDepth 100000 in
set_option maxHeartbeats 16000000 in
theorem sums_E (v : Value) (es : List (ByteArray × Vd)) (n : Int) (w : World) (dig : Int → List Int) (T : KV) (TD : List Vd) (wl : List (ByteArray × Vd)) (lk : List (ByteArray × ByteArray)) (st : Int) (hst : st = stE (sumS n.toNat T 0).2) (hTD : TD = []) (h0 : (sumS n.toNat T 0).2 ≠ 0) (h : Rf w 4 v es.length (es.flatMap ecs)) (hT : T = mdG (es.take 400)) (hie : ∀ x ∈ es, inR x.2.i = true) (n1 : 1 ≤ n) (n2 : n ≤ 64) (hd : Digs dig w) (hf : efR dig T nmS 0 (xsS n) [] = ⟨st, 6, TD, wl, lk⟩) :
    Calls Tryz.prog 3 #[v, .int .i64 n] w fun e w' => e = .returned (.bool true) ∧ Below w.heap.size w w' := by
  have hTO : SOk T := by rw [hT]; exact mdG_ok _
  have hTl : T.length ≤ 400 := by rw [hT]; exact mdG_len es 400
  have hTi : ∀ x ∈ T, inR x.2.i = true := fun x hx => hie x (List.mem_of_mem_take (mdG_mem (by rw [← hT]; exact hx)))
  obtain ⟨TN, hTN⟩ : ∃ TN, TN = T.length := ⟨_, rfl⟩
  have HMD := hid (show Calls Tryz.prog 6 #[v] w fun e w' => ∃ a c, e = .returned (.agg #[.slice a TN c, .slice none 0 0]) ∧ Rf w' 4 (.slice a TN c) TN (T.flatMap ecs) ∧ Below w.heap.size w w' by rw [hTN, hT]; exact made_store v es w h)
  have HTN := hid hTN
  have HTl := hid (show TN ≤ 400 by rw [hTN]; exact hTl)
  have HT := hid hTO
  have HLK := hid (hTO.lok hTi)
  have HI := hid (show ∀ x ∈ xsS n, inR x.i = true from by intro x hx; simp at hx; rcases hx with rfl | rfl | rfl | rfl | rfl | rfl | rfl | rfl <;> exact (by decide : inR 0 = true))
  have HD := hid (fun (W : World) (hb : Below w.heap.size w W) => hd.below hb)
  have HF := hid hf
  have H0E := hid h0
  have HTD := hid hTD
  have HTI := hid hTi
  have HKn := hid (fun W => known_any W)
  have l1 : decide (n < 1) = false := by rw [decide_eq_false_iff_not]; omega
  have l2 : decide (64 < n) = false := by rw [decide_eq_false_iff_not]; omega
  have HSt := hid hst
  have KI := hid (show ∀ (ki : Int), (∃ (k : Nat) (h : k < T.length), ki = T[k].2.i) → inR ki = true from by rintro ki ⟨k, h, rfl⟩; exact hTi _ (List.getElem_mem h))
  have HN := hid (And.intro n1 n2)
  clear h hT hie hd hf hTO hTl hTi hTN h0 hTD n1 n2 hst
  go_enter Tryz.func3, Tryz.ntmps3
  go_upto_region 5 with (
    go_at_call 6
    refine HMD.out.mono ?_
    rintro e w1 ⟨a, c, rfl, hR1, hb1⟩
    have HP1 := hid (And.intro hR1 hb1)
    clear hR1 hb1)
  have HA := hid (show ∀ W, Inn (w4S w1 n a c TN) (.cells #[.string nmS, .int .i64 0, .slice (some ⟨w1.heap.size + 1, 0, none⟩) 8 8] 34) W → (W.cell? ⟨w1.heap.size + 1 + 1, 0, none⟩ = some (.string nmS) ∧ W.cell? ⟨w1.heap.size + 1 + 1, 1, none⟩ = some (.int .i64 0) ∧ W.cell? ⟨w1.heap.size + 1 + 1, 2, none⟩ = some (.slice (some ⟨w1.heap.size + 1, 0, none⟩) 8 8) ∧ W.cell? ⟨w1.heap.size, 0, none⟩ = some (.slice a TN c) ∧ W.cell? ⟨w1.heap.size, 1, none⟩ = some (.slice none 0 0)) ∧ Below w1.heap.size w1 W ∧ CodeAt W (.slice (some ⟨w1.heap.size + 1, 0, none⟩) 8 8) (xsS n) from w4S_all w1 n a c TN)
  have HST := hid (fun (W : World) (hI : Inn (w4S w1 n a c TN) (.cells #[.string nmS, .int .i64 0, .slice (some ⟨w1.heap.size + 1, 0, none⟩) 8 8] 34) W) => store_vl (.slice a TN c) T W (by have h1 := HP1.out.1.below (HA.out W hI).2.1; rw [HTN.out] at h1 ⊢; exact h1) (by rw [← HTN.out]; have := HTl.out; omega) HT.out)
  have HRUN := hid (fun (W : World) (p : Nat) (hI : Inn (w4S w1 n a c TN) (.cells #[.string nmS, .int .i64 0, .slice (some ⟨w1.heap.size + 1, 0, none⟩) 8 8] 34) W) (hV : VL W p T) => run_ef p (.slice none 0 0) (.slice (some ⟨w1.heap.size + 1, 0, none⟩) 8 8) nmS 0 (xsS n) [] W dig T (HA.out W hI).2.2 (va_nil W) (show 8 ≤ 1000 by decide) (show 0 ≤ 1000 by decide) HI.out (fun _ h => nomatch h) hV HLK.out (HD.out W (below_on HP1.out.2 (HA.out W hI).2.1)) _ HF.out)
  have H0 := hid (show Inn (w4S w1 n a c TN) (.cells #[.string nmS, .int .i64 0, .slice (some ⟨w1.heap.size + 1, 0, none⟩) 8 8] 34) ((w4S w1 n a c TN).alloc (.cells #[.string nmS, .int .i64 0, .slice (some ⟨w1.heap.size + 1, 0, none⟩) 8 8] 34)).drew from (Below.refl _ _).drew)
  have H01 := hid (show Inn (w4S w1 n a c TN) (.cells #[.string nmS, .int .i64 0, .slice (some ⟨w1.heap.size + 1, 0, none⟩) 8 8] 34) (((w4S w1 n a c TN).alloc (.cells #[.string nmS, .int .i64 0, .slice (some ⟨w1.heap.size + 1, 0, none⟩) 8 8] 34)).alloc (.cells #[.int .i64 0, .int .i64 0, .slice none 0 0, .slice none 0 0, .slice none 0 0] 40)).drew from Below.drew ((show Inn (w4S w1 n a c TN) (.cells #[.string nmS, .int .i64 0, .slice (some ⟨w1.heap.size + 1, 0, none⟩) 8 8] 34) ((w4S w1 n a c TN).alloc (.cells #[.string nmS, .int .i64 0, .slice (some ⟨w1.heap.size + 1, 0, none⟩) 8 8] 34)) from Below.refl _ _).al (.cells #[.int .i64 0, .int .i64 0, .slice none 0 0, .slice none 0 0, .slice none 0 0] 40)))
  have HS0 := hid (HST.out _ H0.out)
  have HS1 := hid (HST.out _ H01.out)
  dsimp only at HRUN
  change Code.wp _ _ _ _ ((w4S w1 n a c TN).alloc (.cells #[.string nmS, .int .i64 0, .slice (some ⟨w1.heap.size + 1, 0, none⟩) 8 8] 34))
  go_cut [7] from 35 (fun v7 wc => ∃ (r : Nat) (t1 t2 t3 : Option Addr) (k1 k2 k3 : Nat), v7 = .pointer (some ⟨r, 0, none⟩) ∧ Hid (EfB wc r st 6 TD wl lk t1 t2 t3 k1 k2 k3 ∧ Inn (w4S w1 n a c TN) (.cells #[.string nmS, .int .i64 0, .slice (some ⟨w1.heap.size + 1, 0, none⟩) 8 8] 34) wc))
  case first =>
    go_region_held3 (fun W => W.cell? ⟨w1.heap.size + 1 + 1, 0, none⟩ = some (.string nmS) ∧ W.cell? ⟨w1.heap.size + 1 + 1, 1, none⟩ = some (.int .i64 0) ∧ W.cell? ⟨w1.heap.size + 1 + 1, 2, none⟩ = some (.slice (some ⟨w1.heap.size + 1, 0, none⟩) 8 8) ∧ W.cell? ⟨w1.heap.size, 0, none⟩ = some (.slice a TN c) ∧ W.cell? ⟨w1.heap.size, 1, none⟩ = some (.slice none 0 0))
      (first | with_reducible exact HA9.out | with_reducible exact (HA.out _ H9.out).1 | with_reducible exact (HA.out _ (H9.out.al _)).1 | with_reducible exact (HA.out _ H6.out).1 | with_reducible exact (HA.out _ (H6.out.al _)).1 | with_reducible exact (HA.out _ H0.out).1 | with_reducible exact (HA.out _ H01.out).1)
      (first
      | (go_at_call 8
         with_reducible refine HS0.out.mono ?_
         rintro e w6 ⟨p, rfl, hv6, hb6⟩
         have H6 := hid (H0.out.go hb6)
         have HR1 := hid (HRUN.out w6 p H6.out hv6)
         have HR2 := hid (HRUN.out (w6.alloc (.cells #[.int .i64 0, .int .i64 0, .slice none 0 0, .slice none 0 0, .slice none 0 0] 40)) p (H6.out.al (.cells #[.int .i64 0, .int .i64 0, .slice none 0 0, .slice none 0 0, .slice none 0 0] 40)) (hv6.below (below1 w6 (.cells #[.int .i64 0, .int .i64 0, .slice none 0 0, .slice none 0 0, .slice none 0 0] 40))))
         clear hv6 hb6 HS0 HS1)
      | (go_at_call 8
         with_reducible refine HS1.out.mono ?_
         rintro e w6 ⟨p, rfl, hv6, hb6⟩
         have H6 := hid (H01.out.go hb6)
         have HX := hid (box_mk1 hb6)
         have HR1 := hid (HRUN.out w6 p H6.out hv6)
         have HR2 := hid (HRUN.out (w6.alloc (.cells #[.int .i64 0, .int .i64 0, .slice none 0 0, .slice none 0 0, .slice none 0 0] 40)) p (H6.out.al (.cells #[.int .i64 0, .int .i64 0, .slice none 0 0, .slice none 0 0, .slice none 0 0] 40)) (hv6.below (below1 w6 (.cells #[.int .i64 0, .int .i64 0, .slice none 0 0, .slice none 0 0, .slice none 0 0] 40))))
         clear hv6 hb6 HS0 HS1)
      | (go_at_call 7
         with_reducible refine HR1.out.mono ?_
         rintro e w9 ⟨t1, k1, t2, k2, t3, k3, rfl, hE9, hb9⟩
         have H9 := hid (H6.out.go hb9)
         first | (replace HX := hid (HX.out.go hb9); have HA9 := hid (HA.out _ (H9.out.sets HX.out.2.2 (.int .i64 st) (.int .i64 6) (.slice t1 TD.length k1) (.slice t2 wl.length k2) (.slice t3 lk.length k3))).1; obtain ⟨x0, x1, x2, x3, x4, x5⟩ := cells5f HX.out.1; have hxz := HX.out.2.1) | skip
         have HE9 := hid hE9
         clear hb9 HR1 HR2 hE9)
      | (go_at_call 7
         with_reducible refine HR2.out.mono ?_
         rintro e w9 ⟨t1, k1, t2, k2, t3, k3, rfl, hE9, hb9⟩
         have H9 := hid ((H6.out.al (.cells #[.int .i64 0, .int .i64 0, .slice none 0 0, .slice none 0 0, .slice none 0 0] 40)).go hb9)
         have HX := hid (show Box w9 (w4S w1 n a c TN) w6.heap.size from Box.mk2 H6.out hb9)
         have HA9 := hid (HA.out _ (H9.out.sets HX.out.2.2 (.int .i64 st) (.int .i64 6) (.slice t1 TD.length k1) (.slice t2 wl.length k2) (.slice t3 lk.length k3))).1
         obtain ⟨x0, x1, x2, x3, x4, x5⟩ := cells5f HX.out.1
         have hxz := HX.out.2.1
         have HE9 := hid hE9
         clear hb9 HR1 HR2 hE9))
    all_goals
      first
      | (refine cut43 HX.out.1 ?_
         intro W hW hK
         have hIW : Inn (w4S w1 n a c TN) (.cells #[.string nmS, .int .i64 0, .slice (some ⟨w1.heap.size + 1, 0, none⟩) 8 8] 34) W := Below.trans H9.out (hK.below (Inn.sz H9.out) (fun k hk e => by have h1 := HX.out.2.2; omega))
         have hEB := HE9.out.into HX.out.1 hW hK
         clear hW hK)
      | (refine cutG (fun W => EfB W w9.heap.size st 6 TD wl lk t1 t2 t3 k1 k2 k3 ∧ Inn (w4S w1 n a c TN) (.cells #[.string nmS, .int .i64 0, .slice (some ⟨w1.heap.size + 1, 0, none⟩) 8 8] 34) W) ⟨HE9.out.new, H9.out.al _⟩ ?_
         rintro W ⟨hEB, hIW⟩)
      go_wp2_with fail
      go_meet
      case rel => exact ⟨_, _, _, _, _, _, _, rfl, hid ⟨hEB, hIW⟩⟩
  case rest =>
    obtain ⟨r, t1, t2, t3, k1, k2, k3, rfl, HC⟩ := hcut
    rename World => W
    obtain ⟨hEB, hIW⟩ := HC.out
    obtain ⟨⟨-, -, -, s0, -⟩, hb1W, -⟩ := HA.out W hIW
    have HW := hid (And.intro (And.intro hEB (hp_lt hEB.bx)) (And.intro (show W.cell? ⟨w1.heap.size, 0, none⟩ = some (.slice a TN c) from s0) (And.intro (below_on HP1.out.2 hb1W) (HP1.out.1.below hb1W))))
    clear HC HS0 HS1 HST HRUN H0 H01 HA hEB hIW s0 hb1W HMD HD HI HF HLK HP1
    generalize w1.heap.size = B at *
    go_wp2_with fail
    go_loopw [8, 9] (fun v8 v9 wr => ∃ (k : Nat) (want : Int), k ≤ TN ∧ (k : Int) ≤ n ∧ v8 = .int .i64 want ∧ v9 = .int .i64 k ∧ Hid (Below W.heap.size W wr ∧ inR want = true ∧ sumS n.toNat T 0 = sumS (n.toNat - k) (T.drop k) want)) (fun _ v9 _ => TN - (intOf v9).toNat)
    case atStart => exact ⟨0, 0, Nat.zero_le _, by have := HN.out; omega, rfl, rfl, hid ⟨Below.refl _ _, by decide, by rw [List.drop_zero, Nat.sub_zero]⟩⟩
    case round =>
      obtain ⟨k, want, hk, hkn, rfl, rfl, HR⟩ := hrel
      have s0 : wr.cell? ⟨B, 0, none⟩ = some (.slice a TN c) := (HR.out.1.cell (World.block_lt_of_cell? _ _ HW.out.2.1)).trans HW.out.2.1
      by_cases hlt : k < TN
      · by_cases hn : (k : Int) < n
        · have hkT : k < T.length := by rw [← HTN.out]; exact hlt
          obtain ⟨b, off, cap, e, hcap, -, hcell⟩ := Rf.elem (f := ecs) (m := 4) (fun _ => rfl) (by omega) (by have h1 := HW.out.2.2.2.below HR.out.1; rw [HTN.out] at h1; exact h1) k hkT
          injection e with e1 e2 e3
          subst e1 e3
          have hel := HT.out.el T[k] (List.getElem_mem hkT)
          have hso := sum_one hkT hn HR.out.2.2
          have hki := KI.out T[k].2.i ⟨k, hkT, rfl⟩
          obtain ⟨y, hy⟩ : ∃ y, y = T[k] := ⟨_, rfl⟩
          rw [← hy] at hcell hel hso hki
          obtain ⟨yk, kk, ki, kt⟩ := y
          dsimp only at hel hso hki
          have c1 : wr.cell? ⟨b, off + k * 4 + 1, none⟩ = some (.int .i64 kk) := hcell 1 _ rfl
          have c2 : wr.cell? ⟨b, off + k * 4 + 1 + 1, none⟩ = some (.int .i64 ki) := hcell 2 _ rfl
          have c3 : wr.cell? ⟨b, off + k * 4 + 1 + 2, none⟩ = some (.string kt) := hcell 3 _ rfl
          have i1 : (k : Int) < (TN : Int) := by omega
          obtain ⟨r0, r1, r2, r3, r4, r5⟩ := cells5f (HW.out.1.1.below HR.out.1).bx
          have hrz := hp_lt (HW.out.1.1.below HR.out.1).bx
          have hiw := inR_iff.1 HR.out.2.1
          have hii := inR_iff.1 hki
          have HM := hid (show Below w.heap.size w (wr.alloc (.cells #[.int .i64 kk, .int .i64 ki, .string kt] 29)) from below_on (below_on HW.out.2.2.1 HR.out.1) (below1 wr _))
          have HMW := hid (show Below W.heap.size W (wr.alloc (.cells #[.int .i64 kk, .int .i64 ki, .string kt] 29)) from below_on HR.out.1 (below1 wr _))
          have HKK := hid (And.intro hk (And.intro hkn (And.intro hlt hn)))
          clear hy hcell hk hkn e2 hcap r2 r3 r4 r5 hki
          by_cases e1 : isI kk kt = true
          · rw [if_pos e1] at hso
            unfold isI at e1
            rw [decide_eq_true_eq] at e1
            obtain ⟨rfl, rfl⟩ := e1
            by_cases e2 : inR (want + ki) = true
            · rw [if_pos e2] at hso
              have HQ := hid (And.intro e2 hso)
              have his := inR_iff.1 e2
              have hw1 : IntKind.i64.wrap (want + ki) = want + ki := by rw [IntKind.wrap_i64]; omega
              have hkw : IntKind.i64.wrap ((k : Int) + 1) = (k : Int) + 1 := by rw [IntKind.wrap_i64]; have := HTl.out; omega
              clear hso e2 hel r0 r1 hrz
              by_cases hp : 0 < ki
              · have hw2 : IntKind.i64.wrap (9223372036854775807 - ki) = 9223372036854775807 - ki := by rw [IntKind.wrap_i64]; omega
                have b1 : decide ((0 : Int) < ki) = true := by rw [decide_eq_true_eq]; exact hp
                have b2 : decide (9223372036854775807 - ki < want) = false := by rw [decide_eq_false_iff_not]; omega
                have b3 : decide (ki < 0) = false := by rw [decide_eq_false_iff_not]; omega
                clear hp his hiw hii
                go_wp2_with fail
                go_roundw
                case rel => exact ⟨k + 1, want + ki, by have := HKK.out.2.2.1; omega, by have := HKK.out.2.2.2; push_cast; omega, rfl, by go_num, hid ⟨HMW.out, HQ.out⟩⟩
                case measure => have := HKK.out.2.2.1; simp [intOf]; omega
              · by_cases hm : ki < 0
                · have hw3 : IntKind.i64.wrap (-9223372036854775808 - ki) = -9223372036854775808 - ki := by rw [IntKind.wrap_i64]; omega
                  have b1 : decide ((0 : Int) < ki) = false := by rw [decide_eq_false_iff_not]; omega
                  have b3 : decide (ki < 0) = true := by rw [decide_eq_true_eq]; exact hm
                  have b4 : decide (want < -9223372036854775808 - ki) = false := by rw [decide_eq_false_iff_not]; omega
                  clear hp hm his hiw hii
                  go_wp2_with fail
                  go_roundw
                  case rel => exact ⟨k + 1, want + ki, by have := HKK.out.2.2.1; omega, by have := HKK.out.2.2.2; push_cast; omega, rfl, by go_num, hid ⟨HMW.out, HQ.out⟩⟩
                  case measure => have := HKK.out.2.2.1; simp [intOf]; omega
                · have b1 : decide ((0 : Int) < ki) = false := by rw [decide_eq_false_iff_not]; omega
                  have b3 : decide (ki < 0) = false := by rw [decide_eq_false_iff_not]; omega
                  clear hp hm his hiw hii
                  go_wp2_with fail
                  go_roundw
                  case rel => exact ⟨k + 1, want + ki, by have := HKK.out.2.2.1; omega, by have := HKK.out.2.2.2; push_cast; omega, rfl, by go_num, hid ⟨HMW.out, HQ.out⟩⟩
                  case measure => have := HKK.out.2.2.1; simp [intOf]; omega
            · rw [if_neg e2] at hso
              have hst3 : st = 3 := by have h1 := HSt.out; rw [hso] at h1; exact h1
              have his : ¬ (-9223372036854775808 ≤ want + ki ∧ want + ki ≤ 9223372036854775807) := fun h => e2 (inR_iff.2 h)
              rw [hst3] at r0
              clear hso e2 hel hst3
              by_cases hp : 0 < ki
              · have hw2 : IntKind.i64.wrap (9223372036854775807 - ki) = 9223372036854775807 - ki := by rw [IntKind.wrap_i64]; omega
                have b1 : decide ((0 : Int) < ki) = true := by rw [decide_eq_true_eq]; exact hp
                have b2 : decide (9223372036854775807 - ki < want) = true := by rw [decide_eq_true_eq]; omega
                have b3 : decide (ki < 0) = false := by rw [decide_eq_false_iff_not]; omega
                clear hp his hiw hii
                go_wp2_with (
                  go_at_call 5
                  refine (HKn.out _).mono ?_
                  rintro e w3 ⟨rfl, hb⟩
                  have H3 := hid hb
                  clear hb)
                go_ret
                exact ⟨rfl, below_on HM.out H3.out⟩
              · have hw3 : IntKind.i64.wrap (-9223372036854775808 - ki) = -9223372036854775808 - ki := by rw [IntKind.wrap_i64]; omega
                have b1 : decide ((0 : Int) < ki) = false := by rw [decide_eq_false_iff_not]; omega
                have b3 : decide (ki < 0) = true := by rw [decide_eq_true_eq]; omega
                have b4 : decide (want < -9223372036854775808 - ki) = true := by rw [decide_eq_true_eq]; omega
                clear hp his hiw hii
                go_wp2_with (
                  go_at_call 5
                  refine (HKn.out _).mono ?_
                  rintro e w3 ⟨rfl, hb⟩
                  have H3 := hid hb
                  clear hb)
                go_ret
                exact ⟨rfl, below_on HM.out H3.out⟩
          · rw [if_neg e1] at hso
            have hst4 : st = 4 := by have h1 := HSt.out; rw [hso] at h1; exact h1
            have hk1 : kk ≠ 1 := fun h => e1 (by subst h; exact isI_of_chk hel.2.1)
            have b0 : (kk != 1) = true := by simpa using hk1
            rw [hst4] at r0
            clear hso e1 hel hst4 hk1 hiw hii
            go_wp2_with (
              go_at_call 5
              refine (HKn.out _).mono ?_
              rintro e w3 ⟨rfl, hb⟩
              have H3 := hid hb
              clear hb)
            go_ret
            exact ⟨rfl, below_on HM.out H3.out⟩
        · exfalso
          have h1 := HR.out.2.2
          rw [show n.toNat - k = 0 by omega] at h1
          exact H0E.out (by rw [h1]; rfl)
      · exfalso
        have h1 := HR.out.2.2
        rw [show k = T.length by rw [← HTN.out]; omega, List.drop_length] at h1
        exact H0E.out (by rw [h1]; cases (n.toNat - T.length) <;> rfl)

end Go.Proofs.YthcoigbkdbkojabGreat

namespace Go.Proofs.YthcoigbkdbkojabGreat
open Go.RowKit Go.MapKept

set_option maxRecDepth 100000 in
set_option maxHeartbeats 3200000 in
theorem sums_low (v : Value) (n : Int) (w : World) (h : n < 1) : Calls Tryz.prog 3 #[v, .int .i64 n] w fun e w' => e = .returned (.bool true) ∧ Below w.heap.size w w' := by
  have l1 : decide (n < 1) = true := by rw [decide_eq_true_eq]; exact h
  have l2 : n < 1 := h
  clear h
  go_enter Tryz.func3, Tryz.ntmps3
  go_wp2_with (
    go_at_call 5
    refine (known_any _).mono ?_
    rintro e w3 ⟨rfl, hb⟩
    have H3 := hid hb
    clear hb)
  go_ret
  exact ⟨rfl, H3.out⟩

set_option maxRecDepth 100000 in
set_option maxHeartbeats 3200000 in
theorem sums_high (v : Value) (n : Int) (w : World) (h : 64 < n) : Calls Tryz.prog 3 #[v, .int .i64 n] w fun e w' => e = .returned (.bool true) ∧ Below w.heap.size w w' := by
  have l1 : decide (n < 1) = false := by rw [decide_eq_false_iff_not]; omega
  have l2 : decide (64 < n) = true := by rw [decide_eq_true_eq]; exact h
  clear h
  go_enter Tryz.func3, Tryz.ntmps3
  go_wp2_with (
    go_at_call 5
    refine (known_any _).mono ?_
    rintro e w3 ⟨rfl, hb⟩
    have H3 := hid hb
    clear hb)
  go_ret
  exact ⟨rfl, H3.out⟩

theorem sums_any (v : Value) (es : List (ByteArray × Vd)) (n : Int) (w : World) (dig : Int → List Int) (h : Rf w 4 v es.length (es.flatMap ecs)) (hie : ∀ x ∈ es, inR x.2.i = true) (hd : Digs dig w) :
    Calls Tryz.prog 3 #[v, .int .i64 n] w fun e w' => e = .returned (.bool true) ∧ Below w.heap.size w w' := by
  by_cases n1 : 1 ≤ n
  · by_cases n2 : n ≤ 64
    · obtain ⟨T, hT⟩ : ∃ T, T = mdG (es.take 400) := ⟨_, rfl⟩
      have hTO : SOk T := by rw [hT]; exact mdG_ok _
      have hTi : ∀ x ∈ T, inR x.2.i = true := fun x hx => hie x (List.mem_of_mem_take (mdG_mem (by rw [← hT]; exact hx)))
      obtain ⟨lk, hf⟩ := ef_sum (dig := dig) (hTO.lok hTi).v (fun x hx => (hTO.el x hx).1) n1 n2
      by_cases h0 : (sumS n.toNat T 0).2 = 0
      · rw [if_pos h0] at hf
        exact sums_A v es n w dig T _ [] lk _ _ rfl rfl rfl h0 h hT hie n1 n2 hd hf
      · rw [if_neg h0] at hf
        exact sums_E v es n w dig T _ [] lk _ rfl rfl h0 h hT hie n1 n2 hd hf
    · exact sums_high v n w (by omega)
  · exact sums_low v n w (by omega)

end Go.Proofs.YthcoigbkdbkojabGreat

namespace Go.Proofs.YthcoigbkdbkojabGreat
open Go.ChangeShapes Go.WideShapes Go.ChangeAt Go.RowKit

theorem Tryz.own : ownKnob Tryz.prog.godebug = none := by kernel_rfl
theorem Tryz.laidOut : laidOutB Tryz.prog = true := by kernel_rfl

set_option maxRecDepth 100000 in
theorem execSums_lifted (os : Os) (started : os.Started) (H : Type) (enc : TypeId × Value → H) :
    ReturnsInHanded {} Tryz.checked os 3 .any (Rows.execSumsSpec.pre6 enc Tryz.prog Tryz.f3 Rows.execSumsRow.domain false) (Rows.execSumsSpec.post enc Tryz.prog Tryz.f3 false true false false) := by
  refine returnsInHanded_of_change_shaped (C := Tryz.checked) Tryz.own started (by kernel_rfl) Tryz.func3
    (ChangeSpec.witness6 (enc := enc) (C := Tryz.checked) false ⟨#[], #[.slice none 0 0, .int .i64 0], []⟩ 3 (by kernel_rfl) (by kernel_rfl) (by kernel_rfl) (by kernel_rfl)) ?_
  intro W base args ds gs before hval0 hW hcnd _ hsh _
  have hval : ∀ (j : Nat) t v, Tryz.f3.params[j]? = some t → args[j]? = some v → Value.okWide Tryz.prog W .any base t v := hval0
  have hW' := hW
  obtain ⟨p, q, hA0, hV, rfl, hfz, hnd⟩ := hW
  have hA : DataW.TrodAll enc Tryz.prog W 0 (fun _ => true) true Tryz.f3.params.toList args.toList ds p := hA0
  rw [Tryz.params3] at hA hval
  obtain ⟨v0, vs0, d0, ds0, p0, q0, hargs0, rfl, rfl, h0, r0⟩ := trodAll_cons hA
  obtain ⟨v1, vs1, d1, ds1, p1, q1, hargs1, rfl, rfl, h1, r1⟩ := trodAll_cons r0
  obtain ⟨rfl, rfl, rfl⟩ := trodAll_nil r1
  subst hargs1
  obtain rfl : args = #[v0, v1] := by cases args; simp_all
  obtain ⟨rfl, rfl⟩ := trodVars_none hV
  have k0 := h0
  have k1 := h1
  have lt0 : ∀ x ∈ p0, x.block < W.heap.size := by obtain ⟨m, hm⟩ := k0; exact DataW.trod_lt m _ _ _ hm
  have lt1 : ∀ x ∈ p1, x.block < W.heap.size := by obtain ⟨m, hm⟩ := k1; exact DataW.trod_lt m _ _ _ hm
  obtain ⟨es, hR0, hI0⟩ := ents_of_trod (hval 0 22 v0 rfl rfl) h0
  obtain ⟨n1, rfl⟩ := okWide_int Tryz.underlying3 (hval 1 3 v1 rfl rfl)
  clear hA0 hval0
  obtain ⟨T, hT⟩ := tab_of_shaped hsh
  obtain ⟨dig, hdig⟩ := digs_any T
  refine (sums_any v0 es n1 W dig hR0 hI0 (hdig W hT)).mono fun e W' ⟨he, bel⟩ => ?_
  subst he
  exact ⟨_, rfl, _, _, _, [], _, [], hW', trodAll_mk1 (shut_bool Tryz.underlying4 _), (trodAll_cons_mk (Below.trod Tryz.laidOut (by kernel_rfl) (of_decide_eq_true (by kernel_rfl)) k0 bel lt0) (trodAll_cons_mk (Below.trod Tryz.laidOut (by kernel_rfl) (of_decide_eq_true (by kernel_rfl)) k1 bel lt1) trodAll_mk0)), rfl, bel.frame _, fun h => by cases h⟩

theorem execSums_holds : Rows.ExecSumsSaid :=
  OpenClaim.holds_of_wide 3 Tryz.f3 rfl rfl rfl rfl rfl rfl rfl ⟨rfl, rfl, rfl, rfl, rfl⟩ rfl rfl rfl rfl rfl (by kernel_rfl) Tryz.func3 (by kernel_rfl)
    (of_decide_eq_true (by kernel_rfl)) (by unfold Func.isWrapper; first | (rw [if_pos (by decide +kernel)]; kernel_rfl) | (rw [if_neg (by decide +kernel)]; exact ⟨rfl, rfl⟩))
    (fun os started H enc _ => execSums_lifted os started H enc)

#print axioms execSums_holds
end Go.Proofs.YthcoigbkdbkojabGreat
