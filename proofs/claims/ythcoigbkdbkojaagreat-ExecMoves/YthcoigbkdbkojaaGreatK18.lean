import Derived.Test.YthcoigbkdbkojaaGreatK17
namespace Go.Proofs.YthcoigbkdbkojaaGreat
open Go.RowKit Go.MapKept
open V (hp_new hp_lt hp_below hp_alloc)

set_option maxRecDepth 100000 in
set_option maxHeartbeats 16000000 in
theorem moves_sub (a b n : Int) (f t : ByteArray) (w : World) (hf : isKeyB f = true) (ht : isKeyB t = true) (hne : f ≠ t) (ra : inR a = true) (rb : inR b = true) (rn : inR n = true) (hge : n ≤ a) (h6 : inR (a - n) = false) :
    Calls Tryz.prog 8 #[.int .i64 a, .int .i64 b, .int .i64 n, .string f, .string t] w fun e w' => e = .returned (.bool true) ∧ Below w.heap.size w w' := by
  have hq := toList_ne hne
  have hnl : ¬ a < n := by omega
  have hn0 : n < 0 := by unfold inR at h6 ra; have h1 := of_decide_eq_true ra; have h2 := of_decide_eq_false h6; omega
  have kf : f.size ≤ 64 := by unfold isKeyB at hf; have := of_decide_eq_true hf; omega
  have kt : t.size ≤ 64 := by unfold isKeyB at ht; have := of_decide_eq_true ht; omega
  have HKf := hid (fun W => riskey_any f W)
  rw [hf] at HKf
  have HKt := hid (fun W => riskey_any t W)
  rw [ht] at HKt
  have HNa := hid (fun W => number_any a W)
  have HNb := hid (fun W => number_any b W)
  have HNn := hid (fun W => number_any n W)
  have HTf := hid (fun W => text_any f W)
  have HTt := hid (fun W => text_any t W)
  have HKn := hid (fun W => known_any W)
  have HMD := hid (fun (w3 : World) => made_any (.slice (some ⟨w3.heap.size, 0, none⟩) 2 2) [(f, ⟨1, a, emp⟩), (t, ⟨1, b, emp⟩)] (w3.alloc (.cells #[.string f, .int .i64 1, .int .i64 a, .string emp, .string t, .int .i64 1, .int .i64 b, .string emp] 54)) (rf_lit (l := [(f, ⟨1, a, emp⟩), (t, ⟨1, b, emp⟩)]) (hp_new w3 _) rfl (by show 2 ≤ 1000; decide)) (by show 2 ≤ 400; decide) (by
    intro x hx
    have : x = (f, ⟨1, a, emp⟩) ∨ x = (t, ⟨1, b, emp⟩) := by simpa using hx
    rcases this with rfl | rfl
    · exact ⟨hf, by simp [chk], by show (1 : Int) ≠ 0; decide⟩
    · exact ⟨ht, by simp [chk], by show (1 : Int) ≠ 0; decide⟩))
  rw [mdL_two_len f t ⟨1, a, emp⟩ ⟨1, b, emp⟩ hne] at HMD
  have HST := hid (fun (W : World) (a4 : Option Addr) (c4 : Nat) (h : Rf W 4 (.slice a4 2 c4) 2 ((mdL [(f, (⟨1, a, emp⟩ : Vd)), (t, ⟨1, b, emp⟩)]).flatMap ecs)) => store_any (.slice a4 2 c4) none 0 0 (mdL [(f, ⟨1, a, emp⟩), (t, ⟨1, b, emp⟩)]) W (by rw [mdL_two_len f t _ _ hne]; exact h) (by rw [mdL_two_len f t _ _ hne]; decide) (mdL_two_size f t ⟨1, a, emp⟩ ⟨1, b, emp⟩ hne kf kt))
  have HRUN := hid (fun (W : World) (p m B0 : Nat) (av S : Value) (X1 : CodeAt W S xsM) (X2 : V.PV W p (stG (mdL [(f, ⟨1, a, emp⟩), (t, ⟨1, b, emp⟩)])) false m B0) (X3 : Va W av [⟨2, 0, f⟩, ⟨2, 0, t⟩, ⟨1, n, emp⟩]) => runM_no X1 X2 X3 hf ht hne ra rb rn 6 3 (.inr (.inl ⟨rfl, rfl, hge, h6⟩)))
  go_enter Tryz.func8, Tryz.ntmps8
  go_upto_region 5 with (first
    | (go_at_call 19
       refine (HKf.out _).mono ?_
       rintro e w' ⟨rfl, e1⟩
       rw [e1]
       clear e1 w' HKf)
    | (go_at_call 19
       refine (HKt.out _).mono ?_
       rintro e w' ⟨rfl, e1⟩
       rw [e1]
       clear e1 w' HKt)
    | (go_at_call 22
       refine (HNa.out _).mono ?_
       rintro e w2 ⟨rfl, hb2⟩
       have H2 := hid (And.intro (code_lit (xs := xsM) (blk_of hb2 (two1 w _ _) (by simp; omega)) rfl) (And.intro (blk_of hb2 (two2 w _ _) (by simp)) (below_on (below2 w _ _) hb2)))
       clear hb2 HNa)
    | (go_at_call 22
       refine (HNb.out _).mono ?_
       rintro e w3 ⟨rfl, hb3⟩
       have H3 := hid (And.intro (H2.out.1.below hb3) (And.intro (blk_of hb3 H2.out.2.1 (hp_lt H2.out.2.1)) (below_on H2.out.2.2 hb3)))
       clear hb3 HNb)
    | (go_at_call 9
       refine (HMD.out w3).mono ?_
       rintro e w4 ⟨a4, c4, rfl, hR4, hb4'⟩
       have hb4 := below_on (below1 w3 _) hb4'
       have H4 := hid (And.intro (H3.out.1.below hb4) (And.intro (blk_of hb4 H3.out.2.1 (hp_lt H3.out.2.1)) (And.intro (below_on H3.out.2.2 hb4) hR4)))
       clear hb4 hb4' hR4 HMD))
  have HA := hid (show ∀ W, Inn w4 (.cells #[.slice a4 2 c4, .slice none 0 0] 33) W → (W.cell? ⟨w4.heap.size, 0, none⟩ = some (.slice a4 2 c4) ∧ W.cell? ⟨w4.heap.size, 1, none⟩ = some (.slice none 0 0) ∧ W.cell? ⟨w.heap.size + 1, 0, none⟩ = some (.string ⟨#[109, 111, 118, 101]⟩) ∧ W.cell? ⟨w.heap.size + 1, 1, none⟩ = some (.int .i64 3) ∧ W.cell? ⟨w.heap.size + 1, 2, none⟩ = some (.slice (some ⟨w.heap.size, 0, none⟩) 10 10)) ∧ (Below w4.heap.size w4 W ∧ Below w.heap.size w W) from fun W hb => by
    have g1 := blk_of hb (hp_new w4 _) (Nat.lt_succ_self _)
    have hbb : Below w4.heap.size w4 W := (below1 w4 _).trans (Below.mono hb (Nat.le_succ _))
    have g2 := blk_of hbb H4.out.2.1 (hp_lt H4.out.2.1)
    exact ⟨⟨by rw [cell_of_row _ _ _ _ _ _ g1]; rfl, by rw [cell_of_row _ _ _ _ _ _ g1]; rfl, by rw [cell_of_row _ _ _ _ _ _ g2]; rfl, by rw [cell_of_row _ _ _ _ _ _ g2]; rfl, by rw [cell_of_row _ _ _ _ _ _ g2]; rfl⟩, hbb, below_on H4.out.2.2.1 hbb⟩)
  have es : (w4.alloc (.cells #[.slice a4 2 c4, .slice none 0 0] 33)).heap.size = w4.heap.size + 1 := by simp
  have H0 := hid (show Inn w4 (.cells #[.slice a4 2 c4, .slice none 0 0] 33) (w4.alloc (.cells #[.slice a4 2 c4, .slice none 0 0] 33)).drew from (Below.refl _ _).drew)
  have HS0 := hid (HST.out (w4.alloc (.cells #[.slice a4 2 c4, .slice none 0 0] 33)).drew a4 c4 (H4.out.2.2.2.below (HA.out _ H0.out).2.1))
  have H01 := hid (show Inn w4 (.cells #[.slice a4 2 c4, .slice none 0 0] 33) ((w4.alloc (.cells #[.slice a4 2 c4, .slice none 0 0] 33)).alloc (.cells #[.int .i64 0, .int .i64 0, .slice none 0 0, .slice none 0 0, .slice none 0 0] 43)).drew from Below.drew ((show Inn w4 (.cells #[.slice a4 2 c4, .slice none 0 0] 33) (w4.alloc (.cells #[.slice a4 2 c4, .slice none 0 0] 33)) from Below.refl _ _).al (.cells #[.int .i64 0, .int .i64 0, .slice none 0 0, .slice none 0 0, .slice none 0 0] 43)))
  have HS1 := hid (HST.out ((w4.alloc (.cells #[.slice a4 2 c4, .slice none 0 0] 33)).alloc (.cells #[.int .i64 0, .int .i64 0, .slice none 0 0, .slice none 0 0, .slice none 0 0] 43)).drew a4 c4 (H4.out.2.2.2.below (HA.out _ H01.out).2.1))
  clear HST
  go_region_held3 (fun W => W.cell? ⟨w4.heap.size, 0, none⟩ = some (.slice a4 2 c4) ∧ W.cell? ⟨w4.heap.size, 1, none⟩ = some (.slice none 0 0) ∧ W.cell? ⟨w.heap.size + 1, 0, none⟩ = some (.string ⟨#[109, 111, 118, 101]⟩) ∧ W.cell? ⟨w.heap.size + 1, 1, none⟩ = some (.int .i64 3) ∧ W.cell? ⟨w.heap.size + 1, 2, none⟩ = some (.slice (some ⟨w.heap.size, 0, none⟩) 10 10))
    (first | with_reducible exact (HA.out _ H9.out).1 | with_reducible exact (HA.out _ (H9.out.al _)).1 | with_reducible exact HA9.out | with_reducible exact (HA.out _ H8.out).1 | with_reducible exact (HA.out _ (H8.out.al _)).1 | with_reducible exact (HA.out _ ((H8.out.al _).al _)).1 | with_reducible exact (HA.out _ H7.out).1 | with_reducible exact (HA.out _ (H7.out.al _)).1 | with_reducible exact (HA.out _ H6.out).1 | with_reducible exact (HA.out _ (H6.out.al _)).1 | with_reducible exact (HA.out _ H5.out).1 | with_reducible exact (HA.out _ (H5.out.al _)).1 | with_reducible exact (HA.out _ H0.out).1 | with_reducible exact (HA.out _ H01.out).1)
    (first
    | (go_at_call 10
       with_reducible refine HS0.out.mono ?_
       rintro e w5 ⟨p, rfl, hpv, hb5⟩
       have H5 := hid (H0.out.go hb5)
       have HP5 := hid hpv
       clear hpv hb5 HS0 HS1)
    | (go_at_call 10
       with_reducible refine HS1.out.mono ?_
       rintro e w5 ⟨p, rfl, hpv, hb5⟩
       have H5 := hid (H01.out.go hb5)
       have HP5 := hid hpv
       have HX := hid (show Box w5 w4 (w4.heap.size + 1) from Box.mk1 hb5)
       clear hpv hb5 HS0 HS1)
    | (go_at_call 23
       with_reducible refine (HTf.out w5).mono ?_
       rintro e w6 ⟨rfl, hb6⟩
       have H6 := hid (H5.out.go hb6)
       have HP6 := hid (HP5.out.below hb6)
       first | (replace HX := hid (HX.out.go hb6)) | skip
       clear hb6 HTf)
    | (go_at_call 23
       with_reducible refine (HTf.out (w5.alloc (.cells #[.int .i64 0, .int .i64 0, .slice none 0 0, .slice none 0 0, .slice none 0 0] 43))).mono ?_
       rintro e w6 ⟨rfl, hb6⟩
       have H6 := hid ((H5.out.al (.cells #[.int .i64 0, .int .i64 0, .slice none 0 0, .slice none 0 0, .slice none 0 0] 43)).go hb6)
       have HP6 := hid ((HP5.out.below (below1 w5 (.cells #[.int .i64 0, .int .i64 0, .slice none 0 0, .slice none 0 0, .slice none 0 0] 43))).below hb6)
       have HX := hid (show Box w6 w4 w5.heap.size from Box.mk2 H5.out hb6)
       clear hb6 HTf)
    | (go_at_call 23
       with_reducible refine (HTt.out w6).mono ?_
       rintro e w7 ⟨rfl, hb7⟩
       have H7 := hid (H6.out.go hb7)
       have HP7 := hid (HP6.out.below hb7)
       first | (replace HX := hid (HX.out.go hb7)) | skip
       clear hb7 HTt)
    | (go_at_call 23
       with_reducible refine (HTt.out (w6.alloc (.cells #[.int .i64 0, .int .i64 0, .slice none 0 0, .slice none 0 0, .slice none 0 0] 43))).mono ?_
       rintro e w7 ⟨rfl, hb7⟩
       have H7 := hid ((H6.out.al (.cells #[.int .i64 0, .int .i64 0, .slice none 0 0, .slice none 0 0, .slice none 0 0] 43)).go hb7)
       have HP7 := hid ((HP6.out.below (below1 w6 (.cells #[.int .i64 0, .int .i64 0, .slice none 0 0, .slice none 0 0, .slice none 0 0] 43))).below hb7)
       have HX := hid (show Box w7 w4 w6.heap.size from Box.mk2 H6.out hb7)
       clear hb7 HTt)
    | (go_at_call 22
       with_reducible refine (HNn.out w7).mono ?_
       rintro e w8 ⟨rfl, hb8⟩
       have H8 := hid (H7.out.go hb8)
       have HP8 := hid (HP7.out.below hb8)
       first | (replace HX := hid (HX.out.go hb8)) | skip
       have hpa := HP8.out.below (below1 w8 (.cells #[.int .i64 2, .int .i64 0, .string f, .int .i64 2, .int .i64 0, .string t, .int .i64 1, .int .i64 n, .string emp] 28))
       have hva := (va_lit (l := [⟨2, 0, f⟩, ⟨2, 0, t⟩, ⟨1, n, emp⟩]) (hp_new w8 (.cells #[.int .i64 2, .int .i64 0, .string f, .int .i64 2, .int .i64 0, .string t, .int .i64 1, .int .i64 n, .string emp] 28)) rfl)
       have HR1 := hid (show Calls Tryz.prog 12 #[.iface 35 (.pointer (some ⟨p, 0, none⟩)), .agg #[.string ⟨#[109, 111, 118, 101]⟩, .int .i64 3, .slice (some ⟨w.heap.size, 0, none⟩) 10 10], .slice (some ⟨w8.heap.size, 0, none⟩) 3 3] (w8.alloc (.cells #[.int .i64 2, .int .i64 0, .string f, .int .i64 2, .int .i64 0, .string t, .int .i64 1, .int .i64 n, .string emp] 28)) _ from HRUN.out _ _ _ _ _ _ (H4.out.1.below (HA.out _ (H8.out.al (.cells #[.int .i64 2, .int .i64 0, .string f, .int .i64 2, .int .i64 0, .string t, .int .i64 1, .int .i64 n, .string emp] 28))).2.1) (hpa) hva)
       have HR2 := hid (show Calls Tryz.prog 12 #[.iface 35 (.pointer (some ⟨p, 0, none⟩)), .agg #[.string ⟨#[109, 111, 118, 101]⟩, .int .i64 3, .slice (some ⟨w.heap.size, 0, none⟩) 10 10], .slice (some ⟨w8.heap.size, 0, none⟩) 3 3] ((w8.alloc (.cells #[.int .i64 2, .int .i64 0, .string f, .int .i64 2, .int .i64 0, .string t, .int .i64 1, .int .i64 n, .string emp] 28)).alloc (.cells #[.int .i64 0, .int .i64 0, .slice none 0 0, .slice none 0 0, .slice none 0 0] 43)) _ from HRUN.out _ _ _ _ _ _ (H4.out.1.below (HA.out _ ((H8.out.al (.cells #[.int .i64 2, .int .i64 0, .string f, .int .i64 2, .int .i64 0, .string t, .int .i64 1, .int .i64 n, .string emp] 28)).al (.cells #[.int .i64 0, .int .i64 0, .slice none 0 0, .slice none 0 0, .slice none 0 0] 43))).2.1) (hpa.below (below1 _ (.cells #[.int .i64 0, .int .i64 0, .slice none 0 0, .slice none 0 0, .slice none 0 0] 43))) (hva.below (below1 _ (.cells #[.int .i64 0, .int .i64 0, .slice none 0 0, .slice none 0 0, .slice none 0 0] 43))))
       have hza : (w8.alloc (.cells #[.int .i64 0, .int .i64 0, .slice none 0 0, .slice none 0 0, .slice none 0 0] 43)).heap.size = w8.heap.size + 1 := by simp
       have hva3 := (va_lit (l := [⟨2, 0, f⟩, ⟨2, 0, t⟩, ⟨1, n, emp⟩]) (hp_new (w8.alloc (.cells #[.int .i64 0, .int .i64 0, .slice none 0 0, .slice none 0 0, .slice none 0 0] 43)) (.cells #[.int .i64 2, .int .i64 0, .string f, .int .i64 2, .int .i64 0, .string t, .int .i64 1, .int .i64 n, .string emp] 28)) rfl)
       rw [hza] at hva3
       have HR3 := hid (show Calls Tryz.prog 12 #[.iface 35 (.pointer (some ⟨p, 0, none⟩)), .agg #[.string ⟨#[109, 111, 118, 101]⟩, .int .i64 3, .slice (some ⟨w.heap.size, 0, none⟩) 10 10], .slice (some ⟨w8.heap.size + 1, 0, none⟩) 3 3] ((w8.alloc (.cells #[.int .i64 0, .int .i64 0, .slice none 0 0, .slice none 0 0, .slice none 0 0] 43)).alloc (.cells #[.int .i64 2, .int .i64 0, .string f, .int .i64 2, .int .i64 0, .string t, .int .i64 1, .int .i64 n, .string emp] 28)) _ from HRUN.out _ _ _ _ _ _ (H4.out.1.below (HA.out _ ((H8.out.al (.cells #[.int .i64 0, .int .i64 0, .slice none 0 0, .slice none 0 0, .slice none 0 0] 43)).al (.cells #[.int .i64 2, .int .i64 0, .string f, .int .i64 2, .int .i64 0, .string t, .int .i64 1, .int .i64 n, .string emp] 28))).2.1) ((HP8.out.below (below1 w8 (.cells #[.int .i64 0, .int .i64 0, .slice none 0 0, .slice none 0 0, .slice none 0 0] 43))).below (below1 _ (.cells #[.int .i64 2, .int .i64 0, .string f, .int .i64 2, .int .i64 0, .string t, .int .i64 1, .int .i64 n, .string emp] 28))) hva3)
       clear hpa hva hza hva3
       clear hb8 HNn)
    | (go_at_call 22
       with_reducible refine (HNn.out (w7.alloc (.cells #[.int .i64 0, .int .i64 0, .slice none 0 0, .slice none 0 0, .slice none 0 0] 43))).mono ?_
       rintro e w8 ⟨rfl, hb8⟩
       have H8 := hid ((H7.out.al (.cells #[.int .i64 0, .int .i64 0, .slice none 0 0, .slice none 0 0, .slice none 0 0] 43)).go hb8)
       have HP8 := hid ((HP7.out.below (below1 w7 (.cells #[.int .i64 0, .int .i64 0, .slice none 0 0, .slice none 0 0, .slice none 0 0] 43))).below hb8)
       have HX := hid (show Box w8 w4 w7.heap.size from Box.mk2 H7.out hb8)
       have hpa := HP8.out.below (below1 w8 (.cells #[.int .i64 2, .int .i64 0, .string f, .int .i64 2, .int .i64 0, .string t, .int .i64 1, .int .i64 n, .string emp] 28))
       have hva := (va_lit (l := [⟨2, 0, f⟩, ⟨2, 0, t⟩, ⟨1, n, emp⟩]) (hp_new w8 (.cells #[.int .i64 2, .int .i64 0, .string f, .int .i64 2, .int .i64 0, .string t, .int .i64 1, .int .i64 n, .string emp] 28)) rfl)
       have HR1 := hid (show Calls Tryz.prog 12 #[.iface 35 (.pointer (some ⟨p, 0, none⟩)), .agg #[.string ⟨#[109, 111, 118, 101]⟩, .int .i64 3, .slice (some ⟨w.heap.size, 0, none⟩) 10 10], .slice (some ⟨w8.heap.size, 0, none⟩) 3 3] (w8.alloc (.cells #[.int .i64 2, .int .i64 0, .string f, .int .i64 2, .int .i64 0, .string t, .int .i64 1, .int .i64 n, .string emp] 28)) _ from HRUN.out _ _ _ _ _ _ (H4.out.1.below (HA.out _ (H8.out.al (.cells #[.int .i64 2, .int .i64 0, .string f, .int .i64 2, .int .i64 0, .string t, .int .i64 1, .int .i64 n, .string emp] 28))).2.1) (hpa) hva)
       have HR2 := hid (show Calls Tryz.prog 12 #[.iface 35 (.pointer (some ⟨p, 0, none⟩)), .agg #[.string ⟨#[109, 111, 118, 101]⟩, .int .i64 3, .slice (some ⟨w.heap.size, 0, none⟩) 10 10], .slice (some ⟨w8.heap.size, 0, none⟩) 3 3] ((w8.alloc (.cells #[.int .i64 2, .int .i64 0, .string f, .int .i64 2, .int .i64 0, .string t, .int .i64 1, .int .i64 n, .string emp] 28)).alloc (.cells #[.int .i64 0, .int .i64 0, .slice none 0 0, .slice none 0 0, .slice none 0 0] 43)) _ from HRUN.out _ _ _ _ _ _ (H4.out.1.below (HA.out _ ((H8.out.al (.cells #[.int .i64 2, .int .i64 0, .string f, .int .i64 2, .int .i64 0, .string t, .int .i64 1, .int .i64 n, .string emp] 28)).al (.cells #[.int .i64 0, .int .i64 0, .slice none 0 0, .slice none 0 0, .slice none 0 0] 43))).2.1) (hpa.below (below1 _ (.cells #[.int .i64 0, .int .i64 0, .slice none 0 0, .slice none 0 0, .slice none 0 0] 43))) (hva.below (below1 _ (.cells #[.int .i64 0, .int .i64 0, .slice none 0 0, .slice none 0 0, .slice none 0 0] 43))))
       have hza : (w8.alloc (.cells #[.int .i64 0, .int .i64 0, .slice none 0 0, .slice none 0 0, .slice none 0 0] 43)).heap.size = w8.heap.size + 1 := by simp
       have hva3 := (va_lit (l := [⟨2, 0, f⟩, ⟨2, 0, t⟩, ⟨1, n, emp⟩]) (hp_new (w8.alloc (.cells #[.int .i64 0, .int .i64 0, .slice none 0 0, .slice none 0 0, .slice none 0 0] 43)) (.cells #[.int .i64 2, .int .i64 0, .string f, .int .i64 2, .int .i64 0, .string t, .int .i64 1, .int .i64 n, .string emp] 28)) rfl)
       rw [hza] at hva3
       have HR3 := hid (show Calls Tryz.prog 12 #[.iface 35 (.pointer (some ⟨p, 0, none⟩)), .agg #[.string ⟨#[109, 111, 118, 101]⟩, .int .i64 3, .slice (some ⟨w.heap.size, 0, none⟩) 10 10], .slice (some ⟨w8.heap.size + 1, 0, none⟩) 3 3] ((w8.alloc (.cells #[.int .i64 0, .int .i64 0, .slice none 0 0, .slice none 0 0, .slice none 0 0] 43)).alloc (.cells #[.int .i64 2, .int .i64 0, .string f, .int .i64 2, .int .i64 0, .string t, .int .i64 1, .int .i64 n, .string emp] 28)) _ from HRUN.out _ _ _ _ _ _ (H4.out.1.below (HA.out _ ((H8.out.al (.cells #[.int .i64 0, .int .i64 0, .slice none 0 0, .slice none 0 0, .slice none 0 0] 43)).al (.cells #[.int .i64 2, .int .i64 0, .string f, .int .i64 2, .int .i64 0, .string t, .int .i64 1, .int .i64 n, .string emp] 28))).2.1) ((HP8.out.below (below1 w8 (.cells #[.int .i64 0, .int .i64 0, .slice none 0 0, .slice none 0 0, .slice none 0 0] 43))).below (below1 _ (.cells #[.int .i64 2, .int .i64 0, .string f, .int .i64 2, .int .i64 0, .string t, .int .i64 1, .int .i64 n, .string emp] 28))) hva3)
       clear hpa hva hza hva3
       clear hb8 HNn)
    | (go_at_call 12
       with_reducible refine HR1.out.mono ?_
       rintro e w9 ⟨al, q, cl, rfl, hb9⟩
       have H9 := hid ((H8.out.al (.cells #[.int .i64 2, .int .i64 0, .string f, .int .i64 2, .int .i64 0, .string t, .int .i64 1, .int .i64 n, .string emp] 28)).go hb9)
       first | (replace HX := hid (HX.out.go2 (below1 w8 (.cells #[.int .i64 2, .int .i64 0, .string f, .int .i64 2, .int .i64 0, .string t, .int .i64 1, .int .i64 n, .string emp] 28)) hb9); have HA9 := hid (HA.out _ (H9.out.sets HX.out.2.2 (.int .i64 3) (.int .i64 6) (.slice none 0 0) (.slice none 0 0) (.slice al q cl))).1; obtain ⟨x0, x1, x2, x3, x4, x5⟩ := cells5f HX.out.1; have hxz := HX.out.2.1) | skip
       have HW9 := hid (True.intro)
       clear hb9 HR1 HR2 HR3)
    | (go_at_call 12
       with_reducible refine HR2.out.mono ?_
       rintro e w9 ⟨al, q, cl, rfl, hb9⟩
       have H9 := hid (((H8.out.al (.cells #[.int .i64 2, .int .i64 0, .string f, .int .i64 2, .int .i64 0, .string t, .int .i64 1, .int .i64 n, .string emp] 28)).al (.cells #[.int .i64 0, .int .i64 0, .slice none 0 0, .slice none 0 0, .slice none 0 0] 43)).go hb9)
       have HX := hid (show Box w9 w4 (w8.heap.size + 1) from Box.mk3 H8.out hb9)
       have HA9 := hid (HA.out _ (H9.out.sets HX.out.2.2 (.int .i64 3) (.int .i64 6) (.slice none 0 0) (.slice none 0 0) (.slice al q cl))).1
       obtain ⟨x0, x1, x2, x3, x4, x5⟩ := cells5f HX.out.1
       have hxz := HX.out.2.1
       have HW9 := hid (True.intro)
       clear hb9 HR1 HR2 HR3)
    | (go_at_call 12
       with_reducible refine HR3.out.mono ?_
       rintro e w9 ⟨al, q, cl, rfl, hb9⟩
       have H9 := hid (((H8.out.al (.cells #[.int .i64 0, .int .i64 0, .slice none 0 0, .slice none 0 0, .slice none 0 0] 43)).al (.cells #[.int .i64 2, .int .i64 0, .string f, .int .i64 2, .int .i64 0, .string t, .int .i64 1, .int .i64 n, .string emp] 28)).go hb9)
       have HX := hid (show Box w9 w4 w8.heap.size from Box.mk4 H8.out hb9)
       have HA9 := hid (HA.out _ (H9.out.sets HX.out.2.2 (.int .i64 3) (.int .i64 6) (.slice none 0 0) (.slice none 0 0) (.slice al q cl))).1
       obtain ⟨x0, x1, x2, x3, x4, x5⟩ := cells5f HX.out.1
       have hxz := HX.out.2.1
       have HW9 := hid (True.intro)
       clear hb9 HR1 HR2 HR3))
  all_goals
    first
    | (refine cut43 HX.out.1 ?_
       intro W hW hK
       have hbW : Below w.heap.size w W := (HA.out _ H9.out).2.2.trans (hK.below (HA.out _ H9.out).2.2.size (fun k hk e => by have h1 := HX.out.2.2; have h2 := H4.out.2.2.1.size; omega))
       clear hK)
    | (refine cutG (fun W => W.heap[w9.heap.size]? = some (.cells #[.int .i64 3, .int .i64 6, .slice none 0 0, .slice none 0 0, .slice al q cl] 43 (0, 0)) ∧ Below w.heap.size w W) ⟨hp_new w9 _, below_on (HA.out _ H9.out).2.2 (below1 w9 _)⟩ ?_
       rintro W ⟨hW, hbW⟩)
    obtain ⟨r0, r1, r2, r3, r4, r5⟩ := cells5f hW
    have HW := hid (And.intro hbW hW)
    clear hbW hW
    go_wp2_with (first
      | (go_at_call 17
         refine (HKn.out _).mono ?_
         rintro e wz ⟨rfl, hbz⟩
         have HZ := hid hbz
         clear hbz))
    go_ret
    exact ⟨rfl, below_on HW.out.1 HZ.out⟩

end Go.Proofs.YthcoigbkdbkojaaGreat
