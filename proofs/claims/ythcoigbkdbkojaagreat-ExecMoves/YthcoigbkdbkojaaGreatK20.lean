import Derived.Test.YthcoigbkdbkojaaGreatK17
import Derived.Test.YthcoigbkdbkojaaGreatK16
import Derived.Test.YthcoigbkdbkojaaGreatRows
import Derived.Test.YthcoigbkdbkojaaGreatK18
import Derived.Test.YthcoigbkdbkojaaGreatK19
import Derived.ProofKit
import Derived.OpenShut
import Derived.ShutString
import Derived.ChangeOld
namespace Go.Proofs.YthcoigbkdbkojaaGreat
open Go.RowKit Go.MapKept
open V (hp_new hp_lt hp_below hp_alloc)

theorem dnL_two_len (f t : ByteArray) (d e : Vd) (hne : f ≠ t) : (dnL [(f, d.val), (t, e.val)]).length = 2 := by
  rcases dnL_two f t d e hne with h | h <;> rw [h] <;> rfl
theorem getM_f {W : World} {t2 : Option Addr} {k2 : Nat} {f t : ByteArray} {d e : Vd} (hne : f ≠ t) (h : Rf W 4 (.slice t2 2 k2) 2 ((dnL [(f, d.val), (t, e.val)]).flatMap ecs)) : Calls Tryz.prog 24 #[.agg #[.slice t2 2 k2, .slice none 0 0], .string f] W fun x w' => ∃ b, x = .returned (.tuple #[vl d.k d.i d.t, .bool b]) ∧ Below W.heap.size W w' := by
  refine (rget_any (.slice t2 2 k2) none 0 0 f (dnL [(f, d.val), (t, e.val)]) W (by rw [dnL_two_len f t d e hne]; exact h) (by rw [dnL_two_len f t d e hne]; decide)).mono ?_
  rintro x w' ⟨d', b, rfl, h1, h2⟩
  rw [h1 _ (getE_two f t d e hne).1]
  exact ⟨b, rfl, h2⟩
theorem getM_t {W : World} {t2 : Option Addr} {k2 : Nat} {f t : ByteArray} {d e : Vd} (hne : f ≠ t) (h : Rf W 4 (.slice t2 2 k2) 2 ((dnL [(f, d.val), (t, e.val)]).flatMap ecs)) : Calls Tryz.prog 24 #[.agg #[.slice t2 2 k2, .slice none 0 0], .string t] W fun x w' => ∃ b, x = .returned (.tuple #[vl e.k e.i e.t, .bool b]) ∧ Below W.heap.size W w' := by
  refine (rget_any (.slice t2 2 k2) none 0 0 t (dnL [(f, d.val), (t, e.val)]) W (by rw [dnL_two_len f t d e hne]; exact h) (by rw [dnL_two_len f t d e hne]; decide)).mono ?_
  rintro x w' ⟨d', b, rfl, h1, h2⟩
  rw [h1 _ (getE_two f t d e hne).2]
  exact ⟨b, rfl, h2⟩

set_option maxRecDepth 100000 in
set_option maxHeartbeats 16000000 in
theorem moves_done (a b n : Int) (f t : ByteArray) (w : World) (hf : isKeyB f = true) (ht : isKeyB t = true) (hne : f ≠ t) (ra : inR a = true) (rb : inR b = true) (rn : inR n = true) (hge : n ≤ a) (h6 : inR (a - n) = true) (h7 : inR (b + n) = true) :
    Calls Tryz.prog 8 #[.int .i64 a, .int .i64 b, .int .i64 n, .string f, .string t] w fun e w' => e = .returned (.bool true) ∧ Below w.heap.size w w' := by
  have hq := toList_ne hne
  have hnl : ¬ a < n := by omega
  have hw1 : IntKind.i64.wrap (a - n) = a - n := by rw [IntKind.wrap_i64]; unfold inR at h6; have h2 := of_decide_eq_true h6; omega
  have hw2 : IntKind.i64.wrap (b + n) = b + n := by rw [IntKind.wrap_i64]; unfold inR at h7; have h2 := of_decide_eq_true h7; omega
  have hw3 : IntKind.i64.wrap (a - n + (b + n)) = IntKind.i64.wrap (a + b) := by rw [show a - n + (b + n) = a + b by omega]
  have kf : f.size ≤ 64 := by unfold isKeyB at hf; have := of_decide_eq_true hf; omega
  have kt : t.size ≤ 64 := by unfold isKeyB at ht; have := of_decide_eq_true ht; omega
  have HKf := hid (fun W => riskey_any f W)
  rw [hf] at HKf
  have HKt := hid (fun W => riskey_any t W)
  rw [ht] at HKt
  have HNa := hid (fun W => number_any a W)
  have HNb := hid (fun W => number_any b W)
  have HNn := hid (fun W => number_any n W)
  have HTf := hid (fun W => text_any f W)
  have HTt := hid (fun W => text_any t W)
  have HKn := hid (fun W => known_any W)
  have HMD := hid (fun (w3 : World) => made_any (.slice (some ⟨w3.heap.size, 0, none⟩) 2 2) [(f, ⟨1, a, emp⟩), (t, ⟨1, b, emp⟩)] (w3.alloc (.cells #[.string f, .int .i64 1, .int .i64 a, .string emp, .string t, .int .i64 1, .int .i64 b, .string emp] 54)) (rf_lit (l := [(f, ⟨1, a, emp⟩), (t, ⟨1, b, emp⟩)]) (hp_new w3 _) rfl (by show 2 ≤ 1000; decide)) (by show 2 ≤ 400; decide) (by
    intro x hx
    have : x = (f, ⟨1, a, emp⟩) ∨ x = (t, ⟨1, b, emp⟩) := by simpa using hx
    rcases this with rfl | rfl
    · exact ⟨hf, by simp [chk], by show (1 : Int) ≠ 0; decide⟩
    · exact ⟨ht, by simp [chk], by show (1 : Int) ≠ 0; decide⟩))
  rw [mdL_two_len f t ⟨1, a, emp⟩ ⟨1, b, emp⟩ hne] at HMD
  have HST := hid (fun (W : World) (a4 : Option Addr) (c4 : Nat) (h : Rf W 4 (.slice a4 2 c4) 2 ((mdL [(f, (⟨1, a, emp⟩ : Vd)), (t, ⟨1, b, emp⟩)]).flatMap ecs)) => store_any (.slice a4 2 c4) none 0 0 (mdL [(f, ⟨1, a, emp⟩), (t, ⟨1, b, emp⟩)]) W (by rw [mdL_two_len f t _ _ hne]; exact h) (by rw [mdL_two_len f t _ _ hne]; decide) (mdL_two_size f t ⟨1, a, emp⟩ ⟨1, b, emp⟩ hne kf kt))
  have HRUN := hid (fun (W : World) (p m B0 : Nat) (av S : Value) (X1 : CodeAt W S xsM) (X2 : V.PV W p (stG (mdL [(f, ⟨1, a, emp⟩), (t, ⟨1, b, emp⟩)])) false m B0) (X3 : Va W av [⟨2, 0, f⟩, ⟨2, 0, t⟩, ⟨1, n, emp⟩]) => runM_ok X1 X2 X3 hf ht hne ra rb rn hge h6 h7)
  go_enter Tryz.func8, Tryz.ntmps8
  go_upto_region 5 with (first
    | (go_at_call 19
       refine (HKf.out _).mono ?_
       rintro e w' ⟨rfl, e1⟩
       rw [e1]
       clear e1 w' HKf)
    | (go_at_call 19
       refine (HKt.out _).mono ?_
       rintro e w' ⟨rfl, e1⟩
       rw [e1]
       clear e1 w' HKt)
    | (go_at_call 22
       refine (HNa.out _).mono ?_
       rintro e w2 ⟨rfl, hb2⟩
       have H2 := hid (And.intro (code_lit (xs := xsM) (blk_of hb2 (two1 w _ _) (by simp; omega)) rfl) (And.intro (blk_of hb2 (two2 w _ _) (by simp)) (below_on (below2 w _ _) hb2)))
       clear hb2 HNa)
    | (go_at_call 22
       refine (HNb.out _).mono ?_
       rintro e w3 ⟨rfl, hb3⟩
       have H3 := hid (And.intro (H2.out.1.below hb3) (And.intro (blk_of hb3 H2.out.2.1 (hp_lt H2.out.2.1)) (below_on H2.out.2.2 hb3)))
       clear hb3 HNb)
    | (go_at_call 9
       refine (HMD.out w3).mono ?_
       rintro e w4 ⟨a4, c4, rfl, hR4, hb4'⟩
       have hb4 := below_on (below1 w3 _) hb4'
       have H4 := hid (And.intro (H3.out.1.below hb4) (And.intro (blk_of hb4 H3.out.2.1 (hp_lt H3.out.2.1)) (And.intro (below_on H3.out.2.2 hb4) hR4)))
       clear hb4 hb4' hR4 HMD))
  have HA := hid (show ∀ W, Inn w4 (.cells #[.slice a4 2 c4, .slice none 0 0] 33) W → (W.cell? ⟨w4.heap.size, 0, none⟩ = some (.slice a4 2 c4) ∧ W.cell? ⟨w4.heap.size, 1, none⟩ = some (.slice none 0 0) ∧ W.cell? ⟨w.heap.size + 1, 0, none⟩ = some (.string ⟨#[109, 111, 118, 101]⟩) ∧ W.cell? ⟨w.heap.size + 1, 1, none⟩ = some (.int .i64 3) ∧ W.cell? ⟨w.heap.size + 1, 2, none⟩ = some (.slice (some ⟨w.heap.size, 0, none⟩) 10 10)) ∧ (Below w4.heap.size w4 W ∧ Below w.heap.size w W) from fun W hb => by
    have g1 := blk_of hb (hp_new w4 _) (Nat.lt_succ_self _)
    have hbb : Below w4.heap.size w4 W := (below1 w4 _).trans (Below.mono hb (Nat.le_succ _))
    have g2 := blk_of hbb H4.out.2.1 (hp_lt H4.out.2.1)
    exact ⟨⟨by rw [cell_of_row _ _ _ _ _ _ g1]; rfl, by rw [cell_of_row _ _ _ _ _ _ g1]; rfl, by rw [cell_of_row _ _ _ _ _ _ g2]; rfl, by rw [cell_of_row _ _ _ _ _ _ g2]; rfl, by rw [cell_of_row _ _ _ _ _ _ g2]; rfl⟩, hbb, below_on H4.out.2.2.1 hbb⟩)
  have es : (w4.alloc (.cells #[.slice a4 2 c4, .slice none 0 0] 33)).heap.size = w4.heap.size + 1 := by simp
  have H0 := hid (show Inn w4 (.cells #[.slice a4 2 c4, .slice none 0 0] 33) (w4.alloc (.cells #[.slice a4 2 c4, .slice none 0 0] 33)).drew from (Below.refl _ _).drew)
  have HS0 := hid (HST.out (w4.alloc (.cells #[.slice a4 2 c4, .slice none 0 0] 33)).drew a4 c4 (H4.out.2.2.2.below (HA.out _ H0.out).2.1))
  have H01 := hid (show Inn w4 (.cells #[.slice a4 2 c4, .slice none 0 0] 33) ((w4.alloc (.cells #[.slice a4 2 c4, .slice none 0 0] 33)).alloc (.cells #[.int .i64 0, .int .i64 0, .slice none 0 0, .slice none 0 0, .slice none 0 0] 43)).drew from Below.drew ((show Inn w4 (.cells #[.slice a4 2 c4, .slice none 0 0] 33) (w4.alloc (.cells #[.slice a4 2 c4, .slice none 0 0] 33)) from Below.refl _ _).al (.cells #[.int .i64 0, .int .i64 0, .slice none 0 0, .slice none 0 0, .slice none 0 0] 43)))
  have HS1 := hid (HST.out ((w4.alloc (.cells #[.slice a4 2 c4, .slice none 0 0] 33)).alloc (.cells #[.int .i64 0, .int .i64 0, .slice none 0 0, .slice none 0 0, .slice none 0 0] 43)).drew a4 c4 (H4.out.2.2.2.below (HA.out _ H01.out).2.1))
  clear HST
  go_region_held3 (fun W => W.cell? ⟨w4.heap.size, 0, none⟩ = some (.slice a4 2 c4) ∧ W.cell? ⟨w4.heap.size, 1, none⟩ = some (.slice none 0 0) ∧ W.cell? ⟨w.heap.size + 1, 0, none⟩ = some (.string ⟨#[109, 111, 118, 101]⟩) ∧ W.cell? ⟨w.heap.size + 1, 1, none⟩ = some (.int .i64 3) ∧ W.cell? ⟨w.heap.size + 1, 2, none⟩ = some (.slice (some ⟨w.heap.size, 0, none⟩) 10 10))
    (first | with_reducible exact (HA.out _ H9.out).1 | with_reducible exact (HA.out _ (H9.out.al _)).1 | with_reducible exact HA9.out | with_reducible exact (HA.out _ H8.out).1 | with_reducible exact (HA.out _ (H8.out.al _)).1 | with_reducible exact (HA.out _ ((H8.out.al _).al _)).1 | with_reducible exact (HA.out _ H7.out).1 | with_reducible exact (HA.out _ (H7.out.al _)).1 | with_reducible exact (HA.out _ H6.out).1 | with_reducible exact (HA.out _ (H6.out.al _)).1 | with_reducible exact (HA.out _ H5.out).1 | with_reducible exact (HA.out _ (H5.out.al _)).1 | with_reducible exact (HA.out _ H0.out).1 | with_reducible exact (HA.out _ H01.out).1)
    (first
    | (go_at_call 10
       with_reducible refine HS0.out.mono ?_
       rintro e w5 ⟨p, rfl, hpv, hb5⟩
       have H5 := hid (H0.out.go hb5)
       have HP5 := hid hpv
       clear hpv hb5 HS0 HS1)
    | (go_at_call 10
       with_reducible refine HS1.out.mono ?_
       rintro e w5 ⟨p, rfl, hpv, hb5⟩
       have H5 := hid (H01.out.go hb5)
       have HP5 := hid hpv
       have HX := hid (show Box w5 w4 (w4.heap.size + 1) from Box.mk1 hb5)
       clear hpv hb5 HS0 HS1)
    | (go_at_call 23
       with_reducible refine (HTf.out w5).mono ?_
       rintro e w6 ⟨rfl, hb6⟩
       have H6 := hid (H5.out.go hb6)
       have HP6 := hid (HP5.out.below hb6)
       first | (replace HX := hid (HX.out.go hb6)) | skip
       clear hb6 HTf)
    | (go_at_call 23
       with_reducible refine (HTf.out (w5.alloc (.cells #[.int .i64 0, .int .i64 0, .slice none 0 0, .slice none 0 0, .slice none 0 0] 43))).mono ?_
       rintro e w6 ⟨rfl, hb6⟩
       have H6 := hid ((H5.out.al (.cells #[.int .i64 0, .int .i64 0, .slice none 0 0, .slice none 0 0, .slice none 0 0] 43)).go hb6)
       have HP6 := hid ((HP5.out.below (below1 w5 (.cells #[.int .i64 0, .int .i64 0, .slice none 0 0, .slice none 0 0, .slice none 0 0] 43))).below hb6)
       have HX := hid (show Box w6 w4 w5.heap.size from Box.mk2 H5.out hb6)
       clear hb6 HTf)
    | (go_at_call 23
       with_reducible refine (HTt.out w6).mono ?_
       rintro e w7 ⟨rfl, hb7⟩
       have H7 := hid (H6.out.go hb7)
       have HP7 := hid (HP6.out.below hb7)
       first | (replace HX := hid (HX.out.go hb7)) | skip
       clear hb7 HTt)
    | (go_at_call 23
       with_reducible refine (HTt.out (w6.alloc (.cells #[.int .i64 0, .int .i64 0, .slice none 0 0, .slice none 0 0, .slice none 0 0] 43))).mono ?_
       rintro e w7 ⟨rfl, hb7⟩
       have H7 := hid ((H6.out.al (.cells #[.int .i64 0, .int .i64 0, .slice none 0 0, .slice none 0 0, .slice none 0 0] 43)).go hb7)
       have HP7 := hid ((HP6.out.below (below1 w6 (.cells #[.int .i64 0, .int .i64 0, .slice none 0 0, .slice none 0 0, .slice none 0 0] 43))).below hb7)
       have HX := hid (show Box w7 w4 w6.heap.size from Box.mk2 H6.out hb7)
       clear hb7 HTt)
    | (go_at_call 22
       with_reducible refine (HNn.out w7).mono ?_
       rintro e w8 ⟨rfl, hb8⟩
       have H8 := hid (H7.out.go hb8)
       have HP8 := hid (HP7.out.below hb8)
       first | (replace HX := hid (HX.out.go hb8)) | skip
       have hpa := HP8.out.below (below1 w8 (.cells #[.int .i64 2, .int .i64 0, .string f, .int .i64 2, .int .i64 0, .string t, .int .i64 1, .int .i64 n, .string emp] 28))
       have hva := (va_lit (l := [⟨2, 0, f⟩, ⟨2, 0, t⟩, ⟨1, n, emp⟩]) (hp_new w8 (.cells #[.int .i64 2, .int .i64 0, .string f, .int .i64 2, .int .i64 0, .string t, .int .i64 1, .int .i64 n, .string emp] 28)) rfl)
       have HR1 := hid (show Calls Tryz.prog 12 #[.iface 35 (.pointer (some ⟨p, 0, none⟩)), .agg #[.string ⟨#[109, 111, 118, 101]⟩, .int .i64 3, .slice (some ⟨w.heap.size, 0, none⟩) 10 10], .slice (some ⟨w8.heap.size, 0, none⟩) 3 3] (w8.alloc (.cells #[.int .i64 2, .int .i64 0, .string f, .int .i64 2, .int .i64 0, .string t, .int .i64 1, .int .i64 n, .string emp] 28)) _ from HRUN.out _ _ _ _ _ _ (H4.out.1.below (HA.out _ (H8.out.al (.cells #[.int .i64 2, .int .i64 0, .string f, .int .i64 2, .int .i64 0, .string t, .int .i64 1, .int .i64 n, .string emp] 28))).2.1) (hpa) hva)
       have HR2 := hid (show Calls Tryz.prog 12 #[.iface 35 (.pointer (some ⟨p, 0, none⟩)), .agg #[.string ⟨#[109, 111, 118, 101]⟩, .int .i64 3, .slice (some ⟨w.heap.size, 0, none⟩) 10 10], .slice (some ⟨w8.heap.size, 0, none⟩) 3 3] ((w8.alloc (.cells #[.int .i64 2, .int .i64 0, .string f, .int .i64 2, .int .i64 0, .string t, .int .i64 1, .int .i64 n, .string emp] 28)).alloc (.cells #[.int .i64 0, .int .i64 0, .slice none 0 0, .slice none 0 0, .slice none 0 0] 43)) _ from HRUN.out _ _ _ _ _ _ (H4.out.1.below (HA.out _ ((H8.out.al (.cells #[.int .i64 2, .int .i64 0, .string f, .int .i64 2, .int .i64 0, .string t, .int .i64 1, .int .i64 n, .string emp] 28)).al (.cells #[.int .i64 0, .int .i64 0, .slice none 0 0, .slice none 0 0, .slice none 0 0] 43))).2.1) (hpa.below (below1 _ (.cells #[.int .i64 0, .int .i64 0, .slice none 0 0, .slice none 0 0, .slice none 0 0] 43))) (hva.below (below1 _ (.cells #[.int .i64 0, .int .i64 0, .slice none 0 0, .slice none 0 0, .slice none 0 0] 43))))
       have hza : (w8.alloc (.cells #[.int .i64 0, .int .i64 0, .slice none 0 0, .slice none 0 0, .slice none 0 0] 43)).heap.size = w8.heap.size + 1 := by simp
       have hva3 := (va_lit (l := [⟨2, 0, f⟩, ⟨2, 0, t⟩, ⟨1, n, emp⟩]) (hp_new (w8.alloc (.cells #[.int .i64 0, .int .i64 0, .slice none 0 0, .slice none 0 0, .slice none 0 0] 43)) (.cells #[.int .i64 2, .int .i64 0, .string f, .int .i64 2, .int .i64 0, .string t, .int .i64 1, .int .i64 n, .string emp] 28)) rfl)
       rw [hza] at hva3
       have HR3 := hid (show Calls Tryz.prog 12 #[.iface 35 (.pointer (some ⟨p, 0, none⟩)), .agg #[.string ⟨#[109, 111, 118, 101]⟩, .int .i64 3, .slice (some ⟨w.heap.size, 0, none⟩) 10 10], .slice (some ⟨w8.heap.size + 1, 0, none⟩) 3 3] ((w8.alloc (.cells #[.int .i64 0, .int .i64 0, .slice none 0 0, .slice none 0 0, .slice none 0 0] 43)).alloc (.cells #[.int .i64 2, .int .i64 0, .string f, .int .i64 2, .int .i64 0, .string t, .int .i64 1, .int .i64 n, .string emp] 28)) _ from HRUN.out _ _ _ _ _ _ (H4.out.1.below (HA.out _ ((H8.out.al (.cells #[.int .i64 0, .int .i64 0, .slice none 0 0, .slice none 0 0, .slice none 0 0] 43)).al (.cells #[.int .i64 2, .int .i64 0, .string f, .int .i64 2, .int .i64 0, .string t, .int .i64 1, .int .i64 n, .string emp] 28))).2.1) ((HP8.out.below (below1 w8 (.cells #[.int .i64 0, .int .i64 0, .slice none 0 0, .slice none 0 0, .slice none 0 0] 43))).below (below1 _ (.cells #[.int .i64 2, .int .i64 0, .string f, .int .i64 2, .int .i64 0, .string t, .int .i64 1, .int .i64 n, .string emp] 28))) hva3)
       clear hpa hva hza hva3
       clear hb8 HNn)
    | (go_at_call 22
       with_reducible refine (HNn.out (w7.alloc (.cells #[.int .i64 0, .int .i64 0, .slice none 0 0, .slice none 0 0, .slice none 0 0] 43))).mono ?_
       rintro e w8 ⟨rfl, hb8⟩
       have H8 := hid ((H7.out.al (.cells #[.int .i64 0, .int .i64 0, .slice none 0 0, .slice none 0 0, .slice none 0 0] 43)).go hb8)
       have HP8 := hid ((HP7.out.below (below1 w7 (.cells #[.int .i64 0, .int .i64 0, .slice none 0 0, .slice none 0 0, .slice none 0 0] 43))).below hb8)
       have HX := hid (show Box w8 w4 w7.heap.size from Box.mk2 H7.out hb8)
       have hpa := HP8.out.below (below1 w8 (.cells #[.int .i64 2, .int .i64 0, .string f, .int .i64 2, .int .i64 0, .string t, .int .i64 1, .int .i64 n, .string emp] 28))
       have hva := (va_lit (l := [⟨2, 0, f⟩, ⟨2, 0, t⟩, ⟨1, n, emp⟩]) (hp_new w8 (.cells #[.int .i64 2, .int .i64 0, .string f, .int .i64 2, .int .i64 0, .string t, .int .i64 1, .int .i64 n, .string emp] 28)) rfl)
       have HR1 := hid (show Calls Tryz.prog 12 #[.iface 35 (.pointer (some ⟨p, 0, none⟩)), .agg #[.string ⟨#[109, 111, 118, 101]⟩, .int .i64 3, .slice (some ⟨w.heap.size, 0, none⟩) 10 10], .slice (some ⟨w8.heap.size, 0, none⟩) 3 3] (w8.alloc (.cells #[.int .i64 2, .int .i64 0, .string f, .int .i64 2, .int .i64 0, .string t, .int .i64 1, .int .i64 n, .string emp] 28)) _ from HRUN.out _ _ _ _ _ _ (H4.out.1.below (HA.out _ (H8.out.al (.cells #[.int .i64 2, .int .i64 0, .string f, .int .i64 2, .int .i64 0, .string t, .int .i64 1, .int .i64 n, .string emp] 28))).2.1) (hpa) hva)
       have HR2 := hid (show Calls Tryz.prog 12 #[.iface 35 (.pointer (some ⟨p, 0, none⟩)), .agg #[.string ⟨#[109, 111, 118, 101]⟩, .int .i64 3, .slice (some ⟨w.heap.size, 0, none⟩) 10 10], .slice (some ⟨w8.heap.size, 0, none⟩) 3 3] ((w8.alloc (.cells #[.int .i64 2, .int .i64 0, .string f, .int .i64 2, .int .i64 0, .string t, .int .i64 1, .int .i64 n, .string emp] 28)).alloc (.cells #[.int .i64 0, .int .i64 0, .slice none 0 0, .slice none 0 0, .slice none 0 0] 43)) _ from HRUN.out _ _ _ _ _ _ (H4.out.1.below (HA.out _ ((H8.out.al (.cells #[.int .i64 2, .int .i64 0, .string f, .int .i64 2, .int .i64 0, .string t, .int .i64 1, .int .i64 n, .string emp] 28)).al (.cells #[.int .i64 0, .int .i64 0, .slice none 0 0, .slice none 0 0, .slice none 0 0] 43))).2.1) (hpa.below (below1 _ (.cells #[.int .i64 0, .int .i64 0, .slice none 0 0, .slice none 0 0, .slice none 0 0] 43))) (hva.below (below1 _ (.cells #[.int .i64 0, .int .i64 0, .slice none 0 0, .slice none 0 0, .slice none 0 0] 43))))
       have hza : (w8.alloc (.cells #[.int .i64 0, .int .i64 0, .slice none 0 0, .slice none 0 0, .slice none 0 0] 43)).heap.size = w8.heap.size + 1 := by simp
       have hva3 := (va_lit (l := [⟨2, 0, f⟩, ⟨2, 0, t⟩, ⟨1, n, emp⟩]) (hp_new (w8.alloc (.cells #[.int .i64 0, .int .i64 0, .slice none 0 0, .slice none 0 0, .slice none 0 0] 43)) (.cells #[.int .i64 2, .int .i64 0, .string f, .int .i64 2, .int .i64 0, .string t, .int .i64 1, .int .i64 n, .string emp] 28)) rfl)
       rw [hza] at hva3
       have HR3 := hid (show Calls Tryz.prog 12 #[.iface 35 (.pointer (some ⟨p, 0, none⟩)), .agg #[.string ⟨#[109, 111, 118, 101]⟩, .int .i64 3, .slice (some ⟨w.heap.size, 0, none⟩) 10 10], .slice (some ⟨w8.heap.size + 1, 0, none⟩) 3 3] ((w8.alloc (.cells #[.int .i64 0, .int .i64 0, .slice none 0 0, .slice none 0 0, .slice none 0 0] 43)).alloc (.cells #[.int .i64 2, .int .i64 0, .string f, .int .i64 2, .int .i64 0, .string t, .int .i64 1, .int .i64 n, .string emp] 28)) _ from HRUN.out _ _ _ _ _ _ (H4.out.1.below (HA.out _ ((H8.out.al (.cells #[.int .i64 0, .int .i64 0, .slice none 0 0, .slice none 0 0, .slice none 0 0] 43)).al (.cells #[.int .i64 2, .int .i64 0, .string f, .int .i64 2, .int .i64 0, .string t, .int .i64 1, .int .i64 n, .string emp] 28))).2.1) ((HP8.out.below (below1 w8 (.cells #[.int .i64 0, .int .i64 0, .slice none 0 0, .slice none 0 0, .slice none 0 0] 43))).below (below1 _ (.cells #[.int .i64 2, .int .i64 0, .string f, .int .i64 2, .int .i64 0, .string t, .int .i64 1, .int .i64 n, .string emp] 28))) hva3)
       clear hpa hva hza hva3
       clear hb8 HNn)
    | (go_at_call 12
       with_reducible refine HR1.out.mono ?_
       rintro e w9 ⟨t1, k1, t2, k2, t3, k3, rfl, hR9, hb9⟩
       have H9 := hid ((H8.out.al (.cells #[.int .i64 2, .int .i64 0, .string f, .int .i64 2, .int .i64 0, .string t, .int .i64 1, .int .i64 n, .string emp] 28)).go hb9)
       first | (replace HX := hid (HX.out.go2 (below1 w8 (.cells #[.int .i64 2, .int .i64 0, .string f, .int .i64 2, .int .i64 0, .string t, .int .i64 1, .int .i64 n, .string emp] 28)) hb9); have HA9 := hid (HA.out _ (H9.out.sets HX.out.2.2 (.int .i64 1) (.int .i64 0) (.slice t1 0 k1) (.slice t2 2 k2) (.slice t3 2 k3))).1; obtain ⟨x0, x1, x2, x3, x4, x5⟩ := cells5f HX.out.1; have hxz := HX.out.2.1) | skip
       have HW9 := hid (hR9)
       clear hb9 HR1 HR2 HR3 hR9)
    | (go_at_call 12
       with_reducible refine HR2.out.mono ?_
       rintro e w9 ⟨t1, k1, t2, k2, t3, k3, rfl, hR9, hb9⟩
       have H9 := hid (((H8.out.al (.cells #[.int .i64 2, .int .i64 0, .string f, .int .i64 2, .int .i64 0, .string t, .int .i64 1, .int .i64 n, .string emp] 28)).al (.cells #[.int .i64 0, .int .i64 0, .slice none 0 0, .slice none 0 0, .slice none 0 0] 43)).go hb9)
       have HX := hid (show Box w9 w4 (w8.heap.size + 1) from Box.mk3 H8.out hb9)
       have HA9 := hid (HA.out _ (H9.out.sets HX.out.2.2 (.int .i64 1) (.int .i64 0) (.slice t1 0 k1) (.slice t2 2 k2) (.slice t3 2 k3))).1
       obtain ⟨x0, x1, x2, x3, x4, x5⟩ := cells5f HX.out.1
       have hxz := HX.out.2.1
       have HW9 := hid (hR9)
       clear hb9 HR1 HR2 HR3 hR9)
    | (go_at_call 12
       with_reducible refine HR3.out.mono ?_
       rintro e w9 ⟨t1, k1, t2, k2, t3, k3, rfl, hR9, hb9⟩
       have H9 := hid (((H8.out.al (.cells #[.int .i64 0, .int .i64 0, .slice none 0 0, .slice none 0 0, .slice none 0 0] 43)).al (.cells #[.int .i64 2, .int .i64 0, .string f, .int .i64 2, .int .i64 0, .string t, .int .i64 1, .int .i64 n, .string emp] 28)).go hb9)
       have HX := hid (show Box w9 w4 w8.heap.size from Box.mk4 H8.out hb9)
       have HA9 := hid (HA.out _ (H9.out.sets HX.out.2.2 (.int .i64 1) (.int .i64 0) (.slice t1 0 k1) (.slice t2 2 k2) (.slice t3 2 k3))).1
       obtain ⟨x0, x1, x2, x3, x4, x5⟩ := cells5f HX.out.1
       have hxz := HX.out.2.1
       have HW9 := hid (hR9)
       clear hb9 HR1 HR2 HR3 hR9))
  all_goals
    first
    | (refine cut43 HX.out.1 ?_
       intro W hW hK
       have hbW : Below w.heap.size w W := (HA.out _ H9.out).2.2.trans (hK.below (HA.out _ H9.out).2.2.size (fun k hk e => by have h1 := HX.out.2.2; have h2 := H4.out.2.2.1.size; omega))
       have hRW := (rf_of_owns HW9.out (ecs_one _)).kept hK (fun k hk e => owns_blk HW9.out (by rw [← e]; exact hk) HX.out.1 (fun cs e => by injection e with _ e; cases e))
       clear hK)
    | (refine cutG (fun W => W.heap[w9.heap.size]? = some (.cells #[.int .i64 1, .int .i64 0, .slice t1 0 k1, .slice t2 2 k2, .slice t3 2 k3] 43 (0, 0)) ∧ Below w.heap.size w W ∧ Rf W 4 (.slice t2 2 k2) 2 ((dnL [(f, (⟨1, a - n, emp⟩ : Vd).val), (t, (⟨1, b + n, emp⟩ : Vd).val)]).flatMap ecs)) ⟨hp_new w9 _, below_on (HA.out _ H9.out).2.2 (below1 w9 _), (rf_of_owns HW9.out (ecs_one _)).below (below1 w9 _)⟩ ?_
       rintro W ⟨hW, hbW, hRW⟩)
    obtain ⟨r0, r1, r2, r3, r4, r5⟩ := cells5f hW
    have HW := hid (And.intro hbW hW)
    clear hbW hW
    have HRW := hid hRW
    have HGf := hid (fun W' hb => getM_f (k2 := k2) (t2 := t2) hne (HRW.out.below (show Below W.heap.size W W' from hb)))
    have HGt := hid (fun W' hb => getM_t (k2 := k2) (t2 := t2) hne (HRW.out.below (show Below W.heap.size W W' from hb)))
    clear hRW
    go_wp2_with (first
      | (go_at_call 24
         refine (HGf.out _ (Below.refl _ _)).mono ?_
         rintro e wf ⟨bf, rfl, hbf⟩
         obtain ⟨s0, s1, s2, s3, s4, s5⟩ := cells5f (blk_of hbf HW.out.2 (hp_lt HW.out.2))
         have hsz := hp_lt (blk_of hbf HW.out.2 (hp_lt HW.out.2))
         have HF := hid hbf
         clear hbf HGf r0 r1 r2 r3 r4 r5)
      | (go_at_call 24
         refine (HGt.out _ (below_on HF.out (below1 wf (vo 1 (a - n) emp)))).mono ?_
         rintro e wt ⟨bt, rfl, hbt⟩
         obtain ⟨y0, y1, y2, y3⟩ := vfacts (blk_of hbt (hp_new wf (vo 1 (a - n) emp)) (by simp))
         have hyz := hp_lt (blk_of hbt (hp_new wf (vo 1 (a - n) emp)) (by simp))
         have HT := hid (below_on (below_on HW.out.1 (below_on HF.out (below1 wf (vo 1 (a - n) emp)))) hbt)
         clear hbt HGt)
      | (go_at_call 17
         refine (HKn.out _).mono ?_
         rintro e wz ⟨rfl, hbz⟩
         have HZ := hid hbz
         clear hbz))
    go_ret
    exact ⟨rfl, below_on (HT.out.alloc HT.out.size _) HZ.out⟩

end Go.Proofs.YthcoigbkdbkojaaGreat

namespace Go.Proofs.YthcoigbkdbkojaaGreat
open Go.RowKit Go.MapKept

set_option maxRecDepth 100000 in
set_option maxHeartbeats 8000000 in
theorem moves_out (a b n : Int) (f t : ByteArray) (w : World) (h : isKeyB f = false ∨ (isKeyB f = true ∧ isKeyB t = false) ∨ (isKeyB f = true ∧ isKeyB t = true ∧ f = t)) :
    Calls Tryz.prog 8 #[.int .i64 a, .int .i64 b, .int .i64 n, .string f, .string t] w fun e w' => e = .returned (.bool true) ∧ Below w.heap.size w w' := by
  have HKf := hid (fun W => riskey_any f W)
  have HKt := hid (fun W => riskey_any t W)
  have HKn := hid (fun W => known_any W)
  rcases h with h | ⟨h, h2⟩ | ⟨h, h2, rfl⟩
  · rw [h] at HKf
    go_enter Tryz.func8, Tryz.ntmps8
    go_wp2_with (first
      | (go_at_call 19
         refine (HKf.out _).mono ?_
         rintro e w' ⟨rfl, e1⟩
         rw [e1]
         clear e1 w' HKf)
      | (go_at_call 17
         refine (HKn.out _).mono ?_
         rintro e wz ⟨rfl, hbz⟩
         have HZ := hid hbz
         clear hbz))
    go_ret
    exact ⟨rfl, HZ.out⟩
  · rw [h] at HKf
    rw [h2] at HKt
    go_enter Tryz.func8, Tryz.ntmps8
    go_wp2_with (first
      | (go_at_call 19
         refine (HKf.out _).mono ?_
         rintro e w' ⟨rfl, e1⟩
         rw [e1]
         clear e1 w' HKf)
      | (go_at_call 19
         refine (HKt.out _).mono ?_
         rintro e w' ⟨rfl, e1⟩
         rw [e1]
         clear e1 w' HKt)
      | (go_at_call 17
         refine (HKn.out _).mono ?_
         rintro e wz ⟨rfl, hbz⟩
         have HZ := hid hbz
         clear hbz))
    go_ret
    exact ⟨rfl, HZ.out⟩
  · rw [h] at HKf HKt
    go_enter Tryz.func8, Tryz.ntmps8
    go_wp2_with (first
      | (go_at_call 19
         refine (HKf.out _).mono ?_
         rintro e w' ⟨rfl, e1⟩
         rw [e1]
         clear e1 w' HKf)
      | (go_at_call 19
         refine (HKt.out _).mono ?_
         rintro e w' ⟨rfl, e1⟩
         rw [e1]
         clear e1 w' HKt)
      | (go_at_call 17
         refine (HKn.out _).mono ?_
         rintro e wz ⟨rfl, hbz⟩
         have HZ := hid hbz
         clear hbz))
    go_ret
    exact ⟨rfl, HZ.out⟩

end Go.Proofs.YthcoigbkdbkojaaGreat

namespace Go.Proofs.YthcoigbkdbkojaaGreat
open Go.ChangeShapes Go.WideShapes Go.ChangeAt Go.RowKit

theorem moves_any (a b n : Int) (f t : ByteArray) (w : World) (ra : inR a = true) (rb : inR b = true) (rn : inR n = true) :
    Calls Tryz.prog 8 #[.int .i64 a, .int .i64 b, .int .i64 n, .string f, .string t] w fun e w' => e = .returned (.bool true) ∧ Below w.heap.size w w' := by
  cases hf : isKeyB f
  · exact moves_out a b n f t w (.inl hf)
  · cases ht : isKeyB t
    · exact moves_out a b n f t w (.inr (.inl ⟨hf, ht⟩))
    · by_cases hne : f = t
      · exact moves_out a b n f t w (.inr (.inr ⟨hf, ht, hne⟩))
      · by_cases h5 : a < n
        · exact moves_need a b n f t w hf ht hne ra rb rn h5
        · cases h6 : inR (a - n)
          · exact moves_sub a b n f t w hf ht hne ra rb rn (by omega) h6
          · cases h7 : inR (b + n)
            · exact moves_add a b n f t w hf ht hne ra rb rn (by omega) h6 h7
            · exact moves_done a b n f t w hf ht hne ra rb rn (by omega) h6 h7

theorem Tryz.own : ownKnob Tryz.prog.godebug = none := by kernel_rfl
theorem Tryz.laidOut : laidOutB Tryz.prog = true := by kernel_rfl

set_option maxRecDepth 100000 in
theorem int_range {W : World} {base : Nat} {n : Int} (h : Value.okWide Tryz.prog W .any base 2 (.int .i64 n)) : inR n = true := by
  have h2 : IntKind.i64.has n := by
    simp only [Value.okWide, Tryz.underlying2, Cell.okWide, Cell.ok] at h
    exact h.2
  have e1 : IntKind.i64.min = -9223372036854775808 := by rfl
  have e2 : IntKind.i64.max = 9223372036854775807 := by rfl
  have h3 := h2.1
  have h4 := h2.2
  rw [e1] at h3
  rw [e2] at h4
  exact decide_eq_true ⟨h3, h4⟩

set_option maxRecDepth 100000 in
theorem execMoves_lifted (os : Os) (started : os.Started) (H : Type) (enc : TypeId × Value → H) :
    ReturnsInHanded {} Tryz.checked os 8 .any (Rows.execMovesSpec.pre6 enc Tryz.prog Tryz.f8 Rows.execMovesRow.domain false) (Rows.execMovesSpec.post enc Tryz.prog Tryz.f8 false true false false) := by
  refine returnsInHanded_of_change_sized (C := Tryz.checked) Tryz.own started (by kernel_rfl) Tryz.func8
    (ChangeSpec.witness6 (enc := enc) (C := Tryz.checked) false ⟨#[], #[.int .i64 0, .int .i64 0, .int .i64 0, .string ⟨#[]⟩, .string ⟨#[]⟩], []⟩ 8 (by kernel_rfl) (by kernel_rfl) (by kernel_rfl) (by kernel_rfl)) ?_
  intro W base args ds gs before hval0 hW hcnd hsz0 _
  have hval : ∀ (j : Nat) t v, Tryz.f8.params[j]? = some t → args[j]? = some v → Value.okWide Tryz.prog W .any base t v := hval0
  have hW' := hW
  obtain ⟨p, q, hA0, hV, rfl, hfz, hnd⟩ := hW
  have hA : DataW.TrodAll enc Tryz.prog W 0 (fun _ => true) true Tryz.f8.params.toList args.toList ds p := hA0
  rw [Tryz.params8] at hA hval
  obtain ⟨v0, vs0, d0, ds0, p0, q0, hargs0, rfl, rfl, h0, r0⟩ := trodAll_cons hA
  obtain ⟨v1, vs1, d1, ds1, p1, q1, hargs1, rfl, rfl, h1, r1⟩ := trodAll_cons r0
  obtain ⟨v2, vs2, d2, ds2, p2, q2, hargs2, rfl, rfl, h2, r2⟩ := trodAll_cons r1
  obtain ⟨v3, vs3, d3, ds3, p3, q3, hargs3, rfl, rfl, h3, r3⟩ := trodAll_cons r2
  obtain ⟨v4, vs4, d4, ds4, p4, q4, hargs4, rfl, rfl, h4, r4⟩ := trodAll_cons r3
  obtain ⟨rfl, rfl, rfl⟩ := trodAll_nil r4
  subst hargs4 hargs3 hargs2 hargs1
  obtain rfl : args = #[v0, v1, v2, v3, v4] := by cases args; simp_all
  obtain ⟨rfl, rfl⟩ := trodVars_none hV
  obtain ⟨n0, rfl⟩ := okWide_int Tryz.underlying2 (hval 0 2 v0 rfl rfl)
  obtain ⟨n1, rfl⟩ := okWide_int Tryz.underlying2 (hval 1 2 v1 rfl rfl)
  obtain ⟨n2, rfl⟩ := okWide_int Tryz.underlying2 (hval 2 2 v2 rfl rfl)
  obtain ⟨s3, rfl⟩ := okWide_string Tryz.underlying9 (hval 3 9 v3 rfl rfl)
  obtain ⟨s4, rfl⟩ := okWide_string Tryz.underlying9 (hval 4 9 v4 rfl rfl)
  have ir0 := int_range (hval 0 2 (.int .i64 n0) rfl rfl)
  have ir1 := int_range (hval 1 2 (.int .i64 n1) rfl rfl)
  have ir2 := int_range (hval 2 2 (.int .i64 n2) rfl rfl)
  have k0 := h0
  have lt0 : ∀ x ∈ p0, x.block < W.heap.size := by obtain ⟨m, hm⟩ := k0; exact DataW.trod_lt m _ _ _ hm
  have k1 := h1
  have lt1 : ∀ x ∈ p1, x.block < W.heap.size := by obtain ⟨m, hm⟩ := k1; exact DataW.trod_lt m _ _ _ hm
  have k2 := h2
  have lt2 : ∀ x ∈ p2, x.block < W.heap.size := by obtain ⟨m, hm⟩ := k2; exact DataW.trod_lt m _ _ _ hm
  have k3 := h3
  have lt3 : ∀ x ∈ p3, x.block < W.heap.size := by obtain ⟨m, hm⟩ := k3; exact DataW.trod_lt m _ _ _ hm
  have k4 := h4
  have lt4 : ∀ x ∈ p4, x.block < W.heap.size := by obtain ⟨m, hm⟩ := k4; exact DataW.trod_lt m _ _ _ hm
  clear hA0 hval0 hsz0
  refine (moves_any n0 n1 n2 s3 s4 W ir0 ir1 ir2).mono fun e W' ⟨he, bel⟩ => ?_
  subst he
  exact ⟨_, rfl, _, _, _, [], _, [], hW', trodAll_mk1 (shut_bool Tryz.underlying4 _), (trodAll_cons_mk (Below.trod Tryz.laidOut (by kernel_rfl) (of_decide_eq_true (by kernel_rfl)) k0 bel lt0) (trodAll_cons_mk (Below.trod Tryz.laidOut (by kernel_rfl) (of_decide_eq_true (by kernel_rfl)) k1 bel lt1) (trodAll_cons_mk (Below.trod Tryz.laidOut (by kernel_rfl) (of_decide_eq_true (by kernel_rfl)) k2 bel lt2) (trodAll_cons_mk (Below.trod Tryz.laidOut (by kernel_rfl) (of_decide_eq_true (by kernel_rfl)) k3 bel lt3) (trodAll_cons_mk (Below.trod Tryz.laidOut (by kernel_rfl) (of_decide_eq_true (by kernel_rfl)) k4 bel lt4) trodAll_mk0))))), rfl, bel.frame _, fun h => by cases h⟩

theorem execMoves_holds : Rows.ExecMovesSaid :=
  OpenClaim.holds_of_wide 8 Tryz.f8 rfl rfl rfl rfl rfl rfl rfl ⟨rfl, rfl, rfl, rfl, rfl⟩ rfl rfl rfl rfl rfl (by kernel_rfl) Tryz.func8 (by kernel_rfl)
    (of_decide_eq_true (by kernel_rfl)) (by unfold Func.isWrapper; first | (rw [if_pos (by decide +kernel)]; kernel_rfl) | (rw [if_neg (by decide +kernel)]; exact ⟨rfl, rfl⟩))
    (fun os started H enc _ => execMoves_lifted os started H enc)

#print axioms execMoves_holds
end Go.Proofs.YthcoigbkdbkojaaGreat
