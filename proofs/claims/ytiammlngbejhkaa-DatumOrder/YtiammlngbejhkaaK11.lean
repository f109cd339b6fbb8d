import Derived.Test.YtiammlngbejhkaaK10
namespace Go.Proofs.Ytiammlngbejhkaa
open Go.RowKit

set_option maxRecDepth 100000 in
set_option maxHeartbeats 6400000 in
theorem order_m1_m1_na (ka ia : Int) (sa : ByteArray) (kb ib : Int) (sb : ByteArray) (kc ic : Int) (sc : ByteArray) (w : World) (l1 : (sa.size : Int) ≤ 100000) (l2 : (sb.size : Int) ≤ 100000) (l3 : (sc.size : Int) ≤ 100000) (ra rb : Int) (hra : (ra == 0) = false)
    (hAB : ∀ w, Calls Try.prog 12 #[vl ka ia sa, vl kb ib sb] w fun x w' => x = .returned (.int .i64 (-1)) ∧ Below w.heap.size w w')
    (hBC : ∀ w, Calls Try.prog 12 #[vl kb ib sb, vl kc ic sc] w fun x w' => x = .returned (.int .i64 (-1)) ∧ Below w.heap.size w w')
    (hAC : ∀ w, Calls Try.prog 12 #[vl ka ia sa, vl kc ic sc] w fun x w' => x = .returned (.int .i64 (-1)) ∧ Below w.heap.size w w')
    (hBA : ∀ w, Calls Try.prog 12 #[vl kb ib sb, vl ka ia sa] w fun x w' => x = .returned (.int .i64 1) ∧ Below w.heap.size w w')
    (hAA : ∀ w, Calls Try.prog 12 #[vl ka ia sa, vl ka ia sa] w fun x w' => x = .returned (.int .i64 0) ∧ Below w.heap.size w w')
    (hCa : ∀ w, Calls Try.prog 10 #[vl ka ia sa] w fun x w' => x = .returned (.int .i64 ra) ∧ Below w.heap.size w w')
    (hCb : ∀ w, Calls Try.prog 10 #[vl kb ib sb] w fun x w' => x = .returned (.int .i64 rb) ∧ Below w.heap.size w w')
    (hH3 : ∀ w, Calls Try.prog 14 #[.int .i64 3, vl ka ia sa, vl kb ib sb] w fun x w' => x = .returned (.bool true) ∧ Below w.heap.size w w')
    (hH1 : ∀ w, Calls Try.prog 14 #[.int .i64 1, vl ka ia sa, vl kb ib sb] w fun x w' => x = .returned (.bool false) ∧ Below w.heap.size w w')
    (hH5 : ∀ w, Calls Try.prog 14 #[.int .i64 5, vl ka ia sa, vl kb ib sb] w fun x w' => x = .returned (.bool false) ∧ Below w.heap.size w w')
    (hH4 : ∀ w, Calls Try.prog 14 #[.int .i64 4, vl ka ia sa, vl kb ib sb] w fun x w' => x = .returned (.bool true) ∧ Below w.heap.size w w')
    (hH6 : ∀ w, Calls Try.prog 14 #[.int .i64 6, vl ka ia sa, vl kb ib sb] w fun x w' => x = .returned (.bool false) ∧ Below w.heap.size w w')
    (hH2 : ∀ w, Calls Try.prog 14 #[.int .i64 2, vl ka ia sa, vl kb ib sb] w fun x w' => x = .returned (.bool true) ∧ Below w.heap.size w w') :
    Calls Try.prog 7 #[vl ka ia sa, vl kb ib sb, vl kc ic sc] w fun x w' => x = .returned (.bool true) ∧ Below w.heap.size w w' := by
  have HAB := hid hAB
  have HBC := hid hBC
  have HAC := hid hAC
  have HBA := hid hBA
  have HAA := hid hAA
  have HCa := hid hCa
  have HCb := hid hCb
  have HH3 := hid hH3
  have HH1 := hid hH1
  have HH5 := hid hH5
  have HH4 := hid hH4
  have HH6 := hid hH6
  have HH2 := hid hH2
  clear hAB hBC hAC hBA hAA hCa hCb hH3 hH1 hH5 hH4 hH6 hH2
  have B0 := hid (Ost.mk' w (vo ka ia sa) (vo kb ib sb) (vo kc ic sc))
  go_enter Try.func7, Try.ntmps7
  go_wp2_with (first
    | (go_at_call 12
       (with_reducible show Calls _ _ _ (((w.alloc _).alloc _).alloc _) _)
       refine (HAB.out _).mono ?_
       rintro e w1 ⟨rfl, hb⟩
       have B1 := hid (B0.out.below hb)
       clear hb
       obtain ⟨a0, a1, a2, -⟩ := vfacts B1.out.ha
       obtain ⟨b0, b1, b2, -⟩ := vfacts B1.out.hb
       obtain ⟨c0, c1, c2, -⟩ := vfacts B1.out.hc
       skip)
    | (go_at_call 12
       (with_reducible show Calls _ _ _ w1 _)
       refine (HBC.out _).mono ?_
       rintro e w2 ⟨rfl, hb⟩
       have B2 := hid (B1.out.below hb)
       clear hb
       clear a0 a1 a2 b0 b1 b2 c0 c1 c2
       obtain ⟨a0, a1, a2, -⟩ := vfacts B2.out.ha
       obtain ⟨b0, b1, b2, -⟩ := vfacts B2.out.hb
       obtain ⟨c0, c1, c2, -⟩ := vfacts B2.out.hc
       skip)
    | (go_at_call 12
       (with_reducible show Calls _ _ _ w2 _)
       refine (HAC.out _).mono ?_
       rintro e w3 ⟨rfl, hb⟩
       have B3 := hid (B2.out.below hb)
       clear hb
       clear a0 a1 a2 b0 b1 b2 c0 c1 c2
       obtain ⟨a0, a1, a2, -⟩ := vfacts B3.out.ha
       obtain ⟨b0, b1, b2, -⟩ := vfacts B3.out.hb
       obtain ⟨c0, c1, c2, -⟩ := vfacts B3.out.hc
       skip)
    | (go_at_call 12
       (with_reducible show Calls _ _ _ w3 _)
       refine (HBA.out _).mono ?_
       rintro e w4 ⟨rfl, hb⟩
       have B4 := hid (B3.out.below hb)
       clear hb
       clear a0 a1 a2 b0 b1 b2 c0 c1 c2
       obtain ⟨a0, a1, a2, -⟩ := vfacts B4.out.ha
       obtain ⟨b0, b1, b2, -⟩ := vfacts B4.out.hb
       obtain ⟨c0, c1, c2, -⟩ := vfacts B4.out.hc
       skip)
    | (go_at_call 12
       (with_reducible show Calls _ _ _ w4 _)
       refine (HAA.out _).mono ?_
       rintro e w5 ⟨rfl, hb⟩
       have B5 := hid (B4.out.below hb)
       clear hb
       clear a0 a1 a2 b0 b1 b2 c0 c1 c2
       obtain ⟨a0, a1, a2, -⟩ := vfacts B5.out.ha
       obtain ⟨b0, b1, b2, -⟩ := vfacts B5.out.hb
       obtain ⟨c0, c1, c2, -⟩ := vfacts B5.out.hc
       skip)
    | (go_at_call 10
       (with_reducible show Calls _ _ _ w5 _)
       refine (HCa.out _).mono ?_
       rintro e w6 ⟨rfl, hb⟩
       have B6 := hid (B5.out.below hb)
       clear hb
       clear a0 a1 a2 b0 b1 b2 c0 c1 c2
       obtain ⟨a0, a1, a2, -⟩ := vfacts B6.out.ha
       obtain ⟨b0, b1, b2, -⟩ := vfacts B6.out.hb
       obtain ⟨c0, c1, c2, -⟩ := vfacts B6.out.hc
       skip)
    | (go_at_call 14
       (with_reducible show Calls _ _ _ w6 _)
       refine (HH3.out _).mono ?_
       rintro e w7 ⟨rfl, hb⟩
       have B7 := hid (B6.out.below hb)
       clear hb
       clear a0 a1 a2 b0 b1 b2 c0 c1 c2
       obtain ⟨a0, a1, a2, -⟩ := vfacts B7.out.ha
       obtain ⟨b0, b1, b2, -⟩ := vfacts B7.out.hb
       obtain ⟨c0, c1, c2, -⟩ := vfacts B7.out.hc
       skip)
    | (go_at_call 14
       (with_reducible show Calls _ _ _ w7 _)
       refine (HH1.out _).mono ?_
       rintro e w8 ⟨rfl, hb⟩
       have B8 := hid (B7.out.below hb)
       clear hb
       clear a0 a1 a2 b0 b1 b2 c0 c1 c2
       obtain ⟨a0, a1, a2, -⟩ := vfacts B8.out.ha
       obtain ⟨b0, b1, b2, -⟩ := vfacts B8.out.hb
       obtain ⟨c0, c1, c2, -⟩ := vfacts B8.out.hc
       skip)
    | (go_at_call 14
       (with_reducible show Calls _ _ _ w8 _)
       refine (HH5.out _).mono ?_
       rintro e w9 ⟨rfl, hb⟩
       have B9 := hid (B8.out.below hb)
       clear hb
       clear a0 a1 a2 b0 b1 b2 c0 c1 c2
       obtain ⟨a0, a1, a2, -⟩ := vfacts B9.out.ha
       obtain ⟨b0, b1, b2, -⟩ := vfacts B9.out.hb
       obtain ⟨c0, c1, c2, -⟩ := vfacts B9.out.hc
       skip)
    | (go_at_call 14
       (with_reducible show Calls _ _ _ w9 _)
       refine (HH4.out _).mono ?_
       rintro e w10 ⟨rfl, hb⟩
       have B10 := hid (B9.out.below hb)
       clear hb
       clear a0 a1 a2 b0 b1 b2 c0 c1 c2
       obtain ⟨a0, a1, a2, -⟩ := vfacts B10.out.ha
       obtain ⟨b0, b1, b2, -⟩ := vfacts B10.out.hb
       obtain ⟨c0, c1, c2, -⟩ := vfacts B10.out.hc
       skip)
    | (go_at_call 14
       (with_reducible show Calls _ _ _ w10 _)
       refine (HH6.out _).mono ?_
       rintro e w11 ⟨rfl, hb⟩
       have B11 := hid (B10.out.below hb)
       clear hb
       clear a0 a1 a2 b0 b1 b2 c0 c1 c2
       obtain ⟨a0, a1, a2, -⟩ := vfacts B11.out.ha
       obtain ⟨b0, b1, b2, -⟩ := vfacts B11.out.hb
       obtain ⟨c0, c1, c2, -⟩ := vfacts B11.out.hc
       skip)
    | (go_at_call 14
       (with_reducible show Calls _ _ _ w11 _)
       refine (HH2.out _).mono ?_
       rintro e w12 ⟨rfl, hb⟩
       have B12 := hid (B11.out.below hb)
       clear hb
       clear a0 a1 a2 b0 b1 b2 c0 c1 c2
       obtain ⟨a0, a1, a2, -⟩ := vfacts B12.out.ha
       obtain ⟨b0, b1, b2, -⟩ := vfacts B12.out.hb
       obtain ⟨c0, c1, c2, -⟩ := vfacts B12.out.hc
       skip)
    | (go_at_call 9
       (with_reducible show Calls _ _ _ w12 _)
       refine (known_any _).mono ?_
       rintro e w13 ⟨rfl, hb⟩
       have B13 := hid (B12.out.below hb)
       clear hb
       clear a0 a1 a2 b0 b1 b2 c0 c1 c2
       obtain ⟨a0, a1, a2, -⟩ := vfacts B13.out.ha
       obtain ⟨b0, b1, b2, -⟩ := vfacts B13.out.hb
       obtain ⟨c0, c1, c2, -⟩ := vfacts B13.out.hc
       skip))
  go_ret
  exact ⟨rfl, B13.out.bel⟩

set_option maxRecDepth 100000 in
set_option maxHeartbeats 6400000 in
theorem order_m1_m1_nb (ka ia : Int) (sa : ByteArray) (kb ib : Int) (sb : ByteArray) (kc ic : Int) (sc : ByteArray) (w : World) (l1 : (sa.size : Int) ≤ 100000) (l2 : (sb.size : Int) ≤ 100000) (l3 : (sc.size : Int) ≤ 100000) (rb : Int) (hrb : (rb == 0) = false)
    (hAB : ∀ w, Calls Try.prog 12 #[vl ka ia sa, vl kb ib sb] w fun x w' => x = .returned (.int .i64 (-1)) ∧ Below w.heap.size w w')
    (hBC : ∀ w, Calls Try.prog 12 #[vl kb ib sb, vl kc ic sc] w fun x w' => x = .returned (.int .i64 (-1)) ∧ Below w.heap.size w w')
    (hAC : ∀ w, Calls Try.prog 12 #[vl ka ia sa, vl kc ic sc] w fun x w' => x = .returned (.int .i64 (-1)) ∧ Below w.heap.size w w')
    (hBA : ∀ w, Calls Try.prog 12 #[vl kb ib sb, vl ka ia sa] w fun x w' => x = .returned (.int .i64 1) ∧ Below w.heap.size w w')
    (hAA : ∀ w, Calls Try.prog 12 #[vl ka ia sa, vl ka ia sa] w fun x w' => x = .returned (.int .i64 0) ∧ Below w.heap.size w w')
    (hCa : ∀ w, Calls Try.prog 10 #[vl ka ia sa] w fun x w' => x = .returned (.int .i64 0) ∧ Below w.heap.size w w')
    (hCb : ∀ w, Calls Try.prog 10 #[vl kb ib sb] w fun x w' => x = .returned (.int .i64 rb) ∧ Below w.heap.size w w')
    (hH3 : ∀ w, Calls Try.prog 14 #[.int .i64 3, vl ka ia sa, vl kb ib sb] w fun x w' => x = .returned (.bool true) ∧ Below w.heap.size w w')
    (hH1 : ∀ w, Calls Try.prog 14 #[.int .i64 1, vl ka ia sa, vl kb ib sb] w fun x w' => x = .returned (.bool false) ∧ Below w.heap.size w w')
    (hH5 : ∀ w, Calls Try.prog 14 #[.int .i64 5, vl ka ia sa, vl kb ib sb] w fun x w' => x = .returned (.bool false) ∧ Below w.heap.size w w')
    (hH4 : ∀ w, Calls Try.prog 14 #[.int .i64 4, vl ka ia sa, vl kb ib sb] w fun x w' => x = .returned (.bool true) ∧ Below w.heap.size w w')
    (hH6 : ∀ w, Calls Try.prog 14 #[.int .i64 6, vl ka ia sa, vl kb ib sb] w fun x w' => x = .returned (.bool false) ∧ Below w.heap.size w w')
    (hH2 : ∀ w, Calls Try.prog 14 #[.int .i64 2, vl ka ia sa, vl kb ib sb] w fun x w' => x = .returned (.bool true) ∧ Below w.heap.size w w') :
    Calls Try.prog 7 #[vl ka ia sa, vl kb ib sb, vl kc ic sc] w fun x w' => x = .returned (.bool true) ∧ Below w.heap.size w w' := by
  have HAB := hid hAB
  have HBC := hid hBC
  have HAC := hid hAC
  have HBA := hid hBA
  have HAA := hid hAA
  have HCa := hid hCa
  have HCb := hid hCb
  have HH3 := hid hH3
  have HH1 := hid hH1
  have HH5 := hid hH5
  have HH4 := hid hH4
  have HH6 := hid hH6
  have HH2 := hid hH2
  clear hAB hBC hAC hBA hAA hCa hCb hH3 hH1 hH5 hH4 hH6 hH2
  have B0 := hid (Ost.mk' w (vo ka ia sa) (vo kb ib sb) (vo kc ic sc))
  go_enter Try.func7, Try.ntmps7
  go_wp2_with (first
    | (go_at_call 12
       (with_reducible show Calls _ _ _ (((w.alloc _).alloc _).alloc _) _)
       refine (HAB.out _).mono ?_
       rintro e w1 ⟨rfl, hb⟩
       have B1 := hid (B0.out.below hb)
       clear hb
       obtain ⟨a0, a1, a2, -⟩ := vfacts B1.out.ha
       obtain ⟨b0, b1, b2, -⟩ := vfacts B1.out.hb
       obtain ⟨c0, c1, c2, -⟩ := vfacts B1.out.hc
       skip)
    | (go_at_call 12
       (with_reducible show Calls _ _ _ w1 _)
       refine (HBC.out _).mono ?_
       rintro e w2 ⟨rfl, hb⟩
       have B2 := hid (B1.out.below hb)
       clear hb
       clear a0 a1 a2 b0 b1 b2 c0 c1 c2
       obtain ⟨a0, a1, a2, -⟩ := vfacts B2.out.ha
       obtain ⟨b0, b1, b2, -⟩ := vfacts B2.out.hb
       obtain ⟨c0, c1, c2, -⟩ := vfacts B2.out.hc
       skip)
    | (go_at_call 12
       (with_reducible show Calls _ _ _ w2 _)
       refine (HAC.out _).mono ?_
       rintro e w3 ⟨rfl, hb⟩
       have B3 := hid (B2.out.below hb)
       clear hb
       clear a0 a1 a2 b0 b1 b2 c0 c1 c2
       obtain ⟨a0, a1, a2, -⟩ := vfacts B3.out.ha
       obtain ⟨b0, b1, b2, -⟩ := vfacts B3.out.hb
       obtain ⟨c0, c1, c2, -⟩ := vfacts B3.out.hc
       skip)
    | (go_at_call 12
       (with_reducible show Calls _ _ _ w3 _)
       refine (HBA.out _).mono ?_
       rintro e w4 ⟨rfl, hb⟩
       have B4 := hid (B3.out.below hb)
       clear hb
       clear a0 a1 a2 b0 b1 b2 c0 c1 c2
       obtain ⟨a0, a1, a2, -⟩ := vfacts B4.out.ha
       obtain ⟨b0, b1, b2, -⟩ := vfacts B4.out.hb
       obtain ⟨c0, c1, c2, -⟩ := vfacts B4.out.hc
       skip)
    | (go_at_call 12
       (with_reducible show Calls _ _ _ w4 _)
       refine (HAA.out _).mono ?_
       rintro e w5 ⟨rfl, hb⟩
       have B5 := hid (B4.out.below hb)
       clear hb
       clear a0 a1 a2 b0 b1 b2 c0 c1 c2
       obtain ⟨a0, a1, a2, -⟩ := vfacts B5.out.ha
       obtain ⟨b0, b1, b2, -⟩ := vfacts B5.out.hb
       obtain ⟨c0, c1, c2, -⟩ := vfacts B5.out.hc
       skip)
    | (go_at_call 10
       (with_reducible show Calls _ _ _ w5 _)
       refine (HCa.out _).mono ?_
       rintro e w6 ⟨rfl, hb⟩
       have B6 := hid (B5.out.below hb)
       clear hb
       clear a0 a1 a2 b0 b1 b2 c0 c1 c2
       obtain ⟨a0, a1, a2, -⟩ := vfacts B6.out.ha
       obtain ⟨b0, b1, b2, -⟩ := vfacts B6.out.hb
       obtain ⟨c0, c1, c2, -⟩ := vfacts B6.out.hc
       skip)
    | (go_at_call 10
       (with_reducible show Calls _ _ _ w6 _)
       refine (HCb.out _).mono ?_
       rintro e w7 ⟨rfl, hb⟩
       have B7 := hid (B6.out.below hb)
       clear hb
       clear a0 a1 a2 b0 b1 b2 c0 c1 c2
       obtain ⟨a0, a1, a2, -⟩ := vfacts B7.out.ha
       obtain ⟨b0, b1, b2, -⟩ := vfacts B7.out.hb
       obtain ⟨c0, c1, c2, -⟩ := vfacts B7.out.hc
       skip)
    | (go_at_call 14
       (with_reducible show Calls _ _ _ w7 _)
       refine (HH3.out _).mono ?_
       rintro e w8 ⟨rfl, hb⟩
       have B8 := hid (B7.out.below hb)
       clear hb
       clear a0 a1 a2 b0 b1 b2 c0 c1 c2
       obtain ⟨a0, a1, a2, -⟩ := vfacts B8.out.ha
       obtain ⟨b0, b1, b2, -⟩ := vfacts B8.out.hb
       obtain ⟨c0, c1, c2, -⟩ := vfacts B8.out.hc
       skip)
    | (go_at_call 14
       (with_reducible show Calls _ _ _ w8 _)
       refine (HH1.out _).mono ?_
       rintro e w9 ⟨rfl, hb⟩
       have B9 := hid (B8.out.below hb)
       clear hb
       clear a0 a1 a2 b0 b1 b2 c0 c1 c2
       obtain ⟨a0, a1, a2, -⟩ := vfacts B9.out.ha
       obtain ⟨b0, b1, b2, -⟩ := vfacts B9.out.hb
       obtain ⟨c0, c1, c2, -⟩ := vfacts B9.out.hc
       skip)
    | (go_at_call 14
       (with_reducible show Calls _ _ _ w9 _)
       refine (HH5.out _).mono ?_
       rintro e w10 ⟨rfl, hb⟩
       have B10 := hid (B9.out.below hb)
       clear hb
       clear a0 a1 a2 b0 b1 b2 c0 c1 c2
       obtain ⟨a0, a1, a2, -⟩ := vfacts B10.out.ha
       obtain ⟨b0, b1, b2, -⟩ := vfacts B10.out.hb
       obtain ⟨c0, c1, c2, -⟩ := vfacts B10.out.hc
       skip)
    | (go_at_call 14
       (with_reducible show Calls _ _ _ w10 _)
       refine (HH4.out _).mono ?_
       rintro e w11 ⟨rfl, hb⟩
       have B11 := hid (B10.out.below hb)
       clear hb
       clear a0 a1 a2 b0 b1 b2 c0 c1 c2
       obtain ⟨a0, a1, a2, -⟩ := vfacts B11.out.ha
       obtain ⟨b0, b1, b2, -⟩ := vfacts B11.out.hb
       obtain ⟨c0, c1, c2, -⟩ := vfacts B11.out.hc
       skip)
    | (go_at_call 14
       (with_reducible show Calls _ _ _ w11 _)
       refine (HH6.out _).mono ?_
       rintro e w12 ⟨rfl, hb⟩
       have B12 := hid (B11.out.below hb)
       clear hb
       clear a0 a1 a2 b0 b1 b2 c0 c1 c2
       obtain ⟨a0, a1, a2, -⟩ := vfacts B12.out.ha
       obtain ⟨b0, b1, b2, -⟩ := vfacts B12.out.hb
       obtain ⟨c0, c1, c2, -⟩ := vfacts B12.out.hc
       skip)
    | (go_at_call 14
       (with_reducible show Calls _ _ _ w12 _)
       refine (HH2.out _).mono ?_
       rintro e w13 ⟨rfl, hb⟩
       have B13 := hid (B12.out.below hb)
       clear hb
       clear a0 a1 a2 b0 b1 b2 c0 c1 c2
       obtain ⟨a0, a1, a2, -⟩ := vfacts B13.out.ha
       obtain ⟨b0, b1, b2, -⟩ := vfacts B13.out.hb
       obtain ⟨c0, c1, c2, -⟩ := vfacts B13.out.hc
       skip)
    | (go_at_call 9
       (with_reducible show Calls _ _ _ w13 _)
       refine (known_any _).mono ?_
       rintro e w14 ⟨rfl, hb⟩
       have B14 := hid (B13.out.below hb)
       clear hb
       clear a0 a1 a2 b0 b1 b2 c0 c1 c2
       obtain ⟨a0, a1, a2, -⟩ := vfacts B14.out.ha
       obtain ⟨b0, b1, b2, -⟩ := vfacts B14.out.hb
       obtain ⟨c0, c1, c2, -⟩ := vfacts B14.out.hc
       skip))
  go_ret
  exact ⟨rfl, B14.out.bel⟩

set_option maxRecDepth 100000 in
set_option maxHeartbeats 6400000 in
theorem order_m1_m1_dk (ka ia : Int) (sa : ByteArray) (kb ib : Int) (sb : ByteArray) (kc ic : Int) (sc : ByteArray) (w : World) (l1 : (sa.size : Int) ≤ 100000) (l2 : (sb.size : Int) ≤ 100000) (l3 : (sc.size : Int) ≤ 100000) (hk : (ka == kb) = false)
    (hAB : ∀ w, Calls Try.prog 12 #[vl ka ia sa, vl kb ib sb] w fun x w' => x = .returned (.int .i64 (-1)) ∧ Below w.heap.size w w')
    (hBC : ∀ w, Calls Try.prog 12 #[vl kb ib sb, vl kc ic sc] w fun x w' => x = .returned (.int .i64 (-1)) ∧ Below w.heap.size w w')
    (hAC : ∀ w, Calls Try.prog 12 #[vl ka ia sa, vl kc ic sc] w fun x w' => x = .returned (.int .i64 (-1)) ∧ Below w.heap.size w w')
    (hBA : ∀ w, Calls Try.prog 12 #[vl kb ib sb, vl ka ia sa] w fun x w' => x = .returned (.int .i64 1) ∧ Below w.heap.size w w')
    (hAA : ∀ w, Calls Try.prog 12 #[vl ka ia sa, vl ka ia sa] w fun x w' => x = .returned (.int .i64 0) ∧ Below w.heap.size w w')
    (hCa : ∀ w, Calls Try.prog 10 #[vl ka ia sa] w fun x w' => x = .returned (.int .i64 0) ∧ Below w.heap.size w w')
    (hCb : ∀ w, Calls Try.prog 10 #[vl kb ib sb] w fun x w' => x = .returned (.int .i64 0) ∧ Below w.heap.size w w')
    (hH3 : ∀ w, Calls Try.prog 14 #[.int .i64 3, vl ka ia sa, vl kb ib sb] w fun x w' => x = .returned (.bool true) ∧ Below w.heap.size w w')
    (hH1 : ∀ w, Calls Try.prog 14 #[.int .i64 1, vl ka ia sa, vl kb ib sb] w fun x w' => x = .returned (.bool false) ∧ Below w.heap.size w w')
    (hH5 : ∀ w, Calls Try.prog 14 #[.int .i64 5, vl ka ia sa, vl kb ib sb] w fun x w' => x = .returned (.bool false) ∧ Below w.heap.size w w')
    (hH4 : ∀ w, Calls Try.prog 14 #[.int .i64 4, vl ka ia sa, vl kb ib sb] w fun x w' => x = .returned (.bool true) ∧ Below w.heap.size w w')
    (hH6 : ∀ w, Calls Try.prog 14 #[.int .i64 6, vl ka ia sa, vl kb ib sb] w fun x w' => x = .returned (.bool false) ∧ Below w.heap.size w w')
    (hH2 : ∀ w, Calls Try.prog 14 #[.int .i64 2, vl ka ia sa, vl kb ib sb] w fun x w' => x = .returned (.bool true) ∧ Below w.heap.size w w') :
    Calls Try.prog 7 #[vl ka ia sa, vl kb ib sb, vl kc ic sc] w fun x w' => x = .returned (.bool true) ∧ Below w.heap.size w w' := by
  have HAB := hid hAB
  have HBC := hid hBC
  have HAC := hid hAC
  have HBA := hid hBA
  have HAA := hid hAA
  have HCa := hid hCa
  have HCb := hid hCb
  have HH3 := hid hH3
  have HH1 := hid hH1
  have HH5 := hid hH5
  have HH4 := hid hH4
  have HH6 := hid hH6
  have HH2 := hid hH2
  clear hAB hBC hAC hBA hAA hCa hCb hH3 hH1 hH5 hH4 hH6 hH2
  have B0 := hid (Ost.mk' w (vo ka ia sa) (vo kb ib sb) (vo kc ic sc))
  go_enter Try.func7, Try.ntmps7
  go_wp2_with (first
    | (go_at_call 12
       (with_reducible show Calls _ _ _ (((w.alloc _).alloc _).alloc _) _)
       refine (HAB.out _).mono ?_
       rintro e w1 ⟨rfl, hb⟩
       have B1 := hid (B0.out.below hb)
       clear hb
       obtain ⟨a0, a1, a2, -⟩ := vfacts B1.out.ha
       obtain ⟨b0, b1, b2, -⟩ := vfacts B1.out.hb
       obtain ⟨c0, c1, c2, -⟩ := vfacts B1.out.hc
       skip)
    | (go_at_call 12
       (with_reducible show Calls _ _ _ w1 _)
       refine (HBC.out _).mono ?_
       rintro e w2 ⟨rfl, hb⟩
       have B2 := hid (B1.out.below hb)
       clear hb
       clear a0 a1 a2 b0 b1 b2 c0 c1 c2
       obtain ⟨a0, a1, a2, -⟩ := vfacts B2.out.ha
       obtain ⟨b0, b1, b2, -⟩ := vfacts B2.out.hb
       obtain ⟨c0, c1, c2, -⟩ := vfacts B2.out.hc
       skip)
    | (go_at_call 12
       (with_reducible show Calls _ _ _ w2 _)
       refine (HAC.out _).mono ?_
       rintro e w3 ⟨rfl, hb⟩
       have B3 := hid (B2.out.below hb)
       clear hb
       clear a0 a1 a2 b0 b1 b2 c0 c1 c2
       obtain ⟨a0, a1, a2, -⟩ := vfacts B3.out.ha
       obtain ⟨b0, b1, b2, -⟩ := vfacts B3.out.hb
       obtain ⟨c0, c1, c2, -⟩ := vfacts B3.out.hc
       skip)
    | (go_at_call 12
       (with_reducible show Calls _ _ _ w3 _)
       refine (HBA.out _).mono ?_
       rintro e w4 ⟨rfl, hb⟩
       have B4 := hid (B3.out.below hb)
       clear hb
       clear a0 a1 a2 b0 b1 b2 c0 c1 c2
       obtain ⟨a0, a1, a2, -⟩ := vfacts B4.out.ha
       obtain ⟨b0, b1, b2, -⟩ := vfacts B4.out.hb
       obtain ⟨c0, c1, c2, -⟩ := vfacts B4.out.hc
       skip)
    | (go_at_call 12
       (with_reducible show Calls _ _ _ w4 _)
       refine (HAA.out _).mono ?_
       rintro e w5 ⟨rfl, hb⟩
       have B5 := hid (B4.out.below hb)
       clear hb
       clear a0 a1 a2 b0 b1 b2 c0 c1 c2
       obtain ⟨a0, a1, a2, -⟩ := vfacts B5.out.ha
       obtain ⟨b0, b1, b2, -⟩ := vfacts B5.out.hb
       obtain ⟨c0, c1, c2, -⟩ := vfacts B5.out.hc
       skip)
    | (go_at_call 10
       (with_reducible show Calls _ _ _ w5 _)
       refine (HCa.out _).mono ?_
       rintro e w6 ⟨rfl, hb⟩
       have B6 := hid (B5.out.below hb)
       clear hb
       clear a0 a1 a2 b0 b1 b2 c0 c1 c2
       obtain ⟨a0, a1, a2, -⟩ := vfacts B6.out.ha
       obtain ⟨b0, b1, b2, -⟩ := vfacts B6.out.hb
       obtain ⟨c0, c1, c2, -⟩ := vfacts B6.out.hc
       skip)
    | (go_at_call 10
       (with_reducible show Calls _ _ _ w6 _)
       refine (HCb.out _).mono ?_
       rintro e w7 ⟨rfl, hb⟩
       have B7 := hid (B6.out.below hb)
       clear hb
       clear a0 a1 a2 b0 b1 b2 c0 c1 c2
       obtain ⟨a0, a1, a2, -⟩ := vfacts B7.out.ha
       obtain ⟨b0, b1, b2, -⟩ := vfacts B7.out.hb
       obtain ⟨c0, c1, c2, -⟩ := vfacts B7.out.hc
       skip)
    | (go_at_call 14
       (with_reducible show Calls _ _ _ w7 _)
       refine (HH3.out _).mono ?_
       rintro e w8 ⟨rfl, hb⟩
       have B8 := hid (B7.out.below hb)
       clear hb
       clear a0 a1 a2 b0 b1 b2 c0 c1 c2
       obtain ⟨a0, a1, a2, -⟩ := vfacts B8.out.ha
       obtain ⟨b0, b1, b2, -⟩ := vfacts B8.out.hb
       obtain ⟨c0, c1, c2, -⟩ := vfacts B8.out.hc
       skip)
    | (go_at_call 14
       (with_reducible show Calls _ _ _ w8 _)
       refine (HH1.out _).mono ?_
       rintro e w9 ⟨rfl, hb⟩
       have B9 := hid (B8.out.below hb)
       clear hb
       clear a0 a1 a2 b0 b1 b2 c0 c1 c2
       obtain ⟨a0, a1, a2, -⟩ := vfacts B9.out.ha
       obtain ⟨b0, b1, b2, -⟩ := vfacts B9.out.hb
       obtain ⟨c0, c1, c2, -⟩ := vfacts B9.out.hc
       skip)
    | (go_at_call 14
       (with_reducible show Calls _ _ _ w9 _)
       refine (HH5.out _).mono ?_
       rintro e w10 ⟨rfl, hb⟩
       have B10 := hid (B9.out.below hb)
       clear hb
       clear a0 a1 a2 b0 b1 b2 c0 c1 c2
       obtain ⟨a0, a1, a2, -⟩ := vfacts B10.out.ha
       obtain ⟨b0, b1, b2, -⟩ := vfacts B10.out.hb
       obtain ⟨c0, c1, c2, -⟩ := vfacts B10.out.hc
       skip)
    | (go_at_call 14
       (with_reducible show Calls _ _ _ w10 _)
       refine (HH4.out _).mono ?_
       rintro e w11 ⟨rfl, hb⟩
       have B11 := hid (B10.out.below hb)
       clear hb
       clear a0 a1 a2 b0 b1 b2 c0 c1 c2
       obtain ⟨a0, a1, a2, -⟩ := vfacts B11.out.ha
       obtain ⟨b0, b1, b2, -⟩ := vfacts B11.out.hb
       obtain ⟨c0, c1, c2, -⟩ := vfacts B11.out.hc
       skip)
    | (go_at_call 14
       (with_reducible show Calls _ _ _ w11 _)
       refine (HH6.out _).mono ?_
       rintro e w12 ⟨rfl, hb⟩
       have B12 := hid (B11.out.below hb)
       clear hb
       clear a0 a1 a2 b0 b1 b2 c0 c1 c2
       obtain ⟨a0, a1, a2, -⟩ := vfacts B12.out.ha
       obtain ⟨b0, b1, b2, -⟩ := vfacts B12.out.hb
       obtain ⟨c0, c1, c2, -⟩ := vfacts B12.out.hc
       skip)
    | (go_at_call 14
       (with_reducible show Calls _ _ _ w12 _)
       refine (HH2.out _).mono ?_
       rintro e w13 ⟨rfl, hb⟩
       have B13 := hid (B12.out.below hb)
       clear hb
       clear a0 a1 a2 b0 b1 b2 c0 c1 c2
       obtain ⟨a0, a1, a2, -⟩ := vfacts B13.out.ha
       obtain ⟨b0, b1, b2, -⟩ := vfacts B13.out.hb
       obtain ⟨c0, c1, c2, -⟩ := vfacts B13.out.hc
       skip)
    | (go_at_call 9
       (with_reducible show Calls _ _ _ w13 _)
       refine (known_any _).mono ?_
       rintro e w14 ⟨rfl, hb⟩
       have B14 := hid (B13.out.below hb)
       clear hb
       clear a0 a1 a2 b0 b1 b2 c0 c1 c2
       obtain ⟨a0, a1, a2, -⟩ := vfacts B14.out.ha
       obtain ⟨b0, b1, b2, -⟩ := vfacts B14.out.hb
       obtain ⟨c0, c1, c2, -⟩ := vfacts B14.out.hc
       skip))
  go_ret
  exact ⟨rfl, B14.out.bel⟩

set_option maxRecDepth 100000 in
set_option maxHeartbeats 6400000 in
theorem order_m1_m1_di (ka ia : Int) (sa : ByteArray) (_kb ib : Int) (sb : ByteArray) (kc ic : Int) (sc : ByteArray) (w : World) (l1 : (sa.size : Int) ≤ 100000) (l2 : (sb.size : Int) ≤ 100000) (l3 : (sc.size : Int) ≤ 100000) (hi : (ia == ib) = false)
    (hAB : ∀ w, Calls Try.prog 12 #[vl ka ia sa, vl ka ib sb] w fun x w' => x = .returned (.int .i64 (-1)) ∧ Below w.heap.size w w')
    (hBC : ∀ w, Calls Try.prog 12 #[vl ka ib sb, vl kc ic sc] w fun x w' => x = .returned (.int .i64 (-1)) ∧ Below w.heap.size w w')
    (hAC : ∀ w, Calls Try.prog 12 #[vl ka ia sa, vl kc ic sc] w fun x w' => x = .returned (.int .i64 (-1)) ∧ Below w.heap.size w w')
    (hBA : ∀ w, Calls Try.prog 12 #[vl ka ib sb, vl ka ia sa] w fun x w' => x = .returned (.int .i64 1) ∧ Below w.heap.size w w')
    (hAA : ∀ w, Calls Try.prog 12 #[vl ka ia sa, vl ka ia sa] w fun x w' => x = .returned (.int .i64 0) ∧ Below w.heap.size w w')
    (hCa : ∀ w, Calls Try.prog 10 #[vl ka ia sa] w fun x w' => x = .returned (.int .i64 0) ∧ Below w.heap.size w w')
    (hCb : ∀ w, Calls Try.prog 10 #[vl ka ib sb] w fun x w' => x = .returned (.int .i64 0) ∧ Below w.heap.size w w')
    (hH3 : ∀ w, Calls Try.prog 14 #[.int .i64 3, vl ka ia sa, vl ka ib sb] w fun x w' => x = .returned (.bool true) ∧ Below w.heap.size w w')
    (hH1 : ∀ w, Calls Try.prog 14 #[.int .i64 1, vl ka ia sa, vl ka ib sb] w fun x w' => x = .returned (.bool false) ∧ Below w.heap.size w w')
    (hH5 : ∀ w, Calls Try.prog 14 #[.int .i64 5, vl ka ia sa, vl ka ib sb] w fun x w' => x = .returned (.bool false) ∧ Below w.heap.size w w')
    (hH4 : ∀ w, Calls Try.prog 14 #[.int .i64 4, vl ka ia sa, vl ka ib sb] w fun x w' => x = .returned (.bool true) ∧ Below w.heap.size w w')
    (hH6 : ∀ w, Calls Try.prog 14 #[.int .i64 6, vl ka ia sa, vl ka ib sb] w fun x w' => x = .returned (.bool false) ∧ Below w.heap.size w w')
    (hH2 : ∀ w, Calls Try.prog 14 #[.int .i64 2, vl ka ia sa, vl ka ib sb] w fun x w' => x = .returned (.bool true) ∧ Below w.heap.size w w') :
    Calls Try.prog 7 #[vl ka ia sa, vl ka ib sb, vl kc ic sc] w fun x w' => x = .returned (.bool true) ∧ Below w.heap.size w w' := by
  have HAB := hid hAB
  have HBC := hid hBC
  have HAC := hid hAC
  have HBA := hid hBA
  have HAA := hid hAA
  have HCa := hid hCa
  have HCb := hid hCb
  have HH3 := hid hH3
  have HH1 := hid hH1
  have HH5 := hid hH5
  have HH4 := hid hH4
  have HH6 := hid hH6
  have HH2 := hid hH2
  clear hAB hBC hAC hBA hAA hCa hCb hH3 hH1 hH5 hH4 hH6 hH2
  have B0 := hid (Ost.mk' w (vo ka ia sa) (vo ka ib sb) (vo kc ic sc))
  go_enter Try.func7, Try.ntmps7
  go_wp2_with (first
    | (go_at_call 12
       (with_reducible show Calls _ _ _ (((w.alloc _).alloc _).alloc _) _)
       refine (HAB.out _).mono ?_
       rintro e w1 ⟨rfl, hb⟩
       have B1 := hid (B0.out.below hb)
       clear hb
       obtain ⟨a0, a1, a2, -⟩ := vfacts B1.out.ha
       obtain ⟨b0, b1, b2, -⟩ := vfacts B1.out.hb
       obtain ⟨c0, c1, c2, -⟩ := vfacts B1.out.hc
       skip)
    | (go_at_call 12
       (with_reducible show Calls _ _ _ w1 _)
       refine (HBC.out _).mono ?_
       rintro e w2 ⟨rfl, hb⟩
       have B2 := hid (B1.out.below hb)
       clear hb
       clear a0 a1 a2 b0 b1 b2 c0 c1 c2
       obtain ⟨a0, a1, a2, -⟩ := vfacts B2.out.ha
       obtain ⟨b0, b1, b2, -⟩ := vfacts B2.out.hb
       obtain ⟨c0, c1, c2, -⟩ := vfacts B2.out.hc
       skip)
    | (go_at_call 12
       (with_reducible show Calls _ _ _ w2 _)
       refine (HAC.out _).mono ?_
       rintro e w3 ⟨rfl, hb⟩
       have B3 := hid (B2.out.below hb)
       clear hb
       clear a0 a1 a2 b0 b1 b2 c0 c1 c2
       obtain ⟨a0, a1, a2, -⟩ := vfacts B3.out.ha
       obtain ⟨b0, b1, b2, -⟩ := vfacts B3.out.hb
       obtain ⟨c0, c1, c2, -⟩ := vfacts B3.out.hc
       skip)
    | (go_at_call 12
       (with_reducible show Calls _ _ _ w3 _)
       refine (HBA.out _).mono ?_
       rintro e w4 ⟨rfl, hb⟩
       have B4 := hid (B3.out.below hb)
       clear hb
       clear a0 a1 a2 b0 b1 b2 c0 c1 c2
       obtain ⟨a0, a1, a2, -⟩ := vfacts B4.out.ha
       obtain ⟨b0, b1, b2, -⟩ := vfacts B4.out.hb
       obtain ⟨c0, c1, c2, -⟩ := vfacts B4.out.hc
       skip)
    | (go_at_call 12
       (with_reducible show Calls _ _ _ w4 _)
       refine (HAA.out _).mono ?_
       rintro e w5 ⟨rfl, hb⟩
       have B5 := hid (B4.out.below hb)
       clear hb
       clear a0 a1 a2 b0 b1 b2 c0 c1 c2
       obtain ⟨a0, a1, a2, -⟩ := vfacts B5.out.ha
       obtain ⟨b0, b1, b2, -⟩ := vfacts B5.out.hb
       obtain ⟨c0, c1, c2, -⟩ := vfacts B5.out.hc
       skip)
    | (go_at_call 10
       (with_reducible show Calls _ _ _ w5 _)
       refine (HCa.out _).mono ?_
       rintro e w6 ⟨rfl, hb⟩
       have B6 := hid (B5.out.below hb)
       clear hb
       clear a0 a1 a2 b0 b1 b2 c0 c1 c2
       obtain ⟨a0, a1, a2, -⟩ := vfacts B6.out.ha
       obtain ⟨b0, b1, b2, -⟩ := vfacts B6.out.hb
       obtain ⟨c0, c1, c2, -⟩ := vfacts B6.out.hc
       skip)
    | (go_at_call 10
       (with_reducible show Calls _ _ _ w6 _)
       refine (HCb.out _).mono ?_
       rintro e w7 ⟨rfl, hb⟩
       have B7 := hid (B6.out.below hb)
       clear hb
       clear a0 a1 a2 b0 b1 b2 c0 c1 c2
       obtain ⟨a0, a1, a2, -⟩ := vfacts B7.out.ha
       obtain ⟨b0, b1, b2, -⟩ := vfacts B7.out.hb
       obtain ⟨c0, c1, c2, -⟩ := vfacts B7.out.hc
       skip)
    | (go_at_call 14
       (with_reducible show Calls _ _ _ w7 _)
       refine (HH3.out _).mono ?_
       rintro e w8 ⟨rfl, hb⟩
       have B8 := hid (B7.out.below hb)
       clear hb
       clear a0 a1 a2 b0 b1 b2 c0 c1 c2
       obtain ⟨a0, a1, a2, -⟩ := vfacts B8.out.ha
       obtain ⟨b0, b1, b2, -⟩ := vfacts B8.out.hb
       obtain ⟨c0, c1, c2, -⟩ := vfacts B8.out.hc
       skip)
    | (go_at_call 14
       (with_reducible show Calls _ _ _ w8 _)
       refine (HH1.out _).mono ?_
       rintro e w9 ⟨rfl, hb⟩
       have B9 := hid (B8.out.below hb)
       clear hb
       clear a0 a1 a2 b0 b1 b2 c0 c1 c2
       obtain ⟨a0, a1, a2, -⟩ := vfacts B9.out.ha
       obtain ⟨b0, b1, b2, -⟩ := vfacts B9.out.hb
       obtain ⟨c0, c1, c2, -⟩ := vfacts B9.out.hc
       skip)
    | (go_at_call 14
       (with_reducible show Calls _ _ _ w9 _)
       refine (HH5.out _).mono ?_
       rintro e w10 ⟨rfl, hb⟩
       have B10 := hid (B9.out.below hb)
       clear hb
       clear a0 a1 a2 b0 b1 b2 c0 c1 c2
       obtain ⟨a0, a1, a2, -⟩ := vfacts B10.out.ha
       obtain ⟨b0, b1, b2, -⟩ := vfacts B10.out.hb
       obtain ⟨c0, c1, c2, -⟩ := vfacts B10.out.hc
       skip)
    | (go_at_call 14
       (with_reducible show Calls _ _ _ w10 _)
       refine (HH4.out _).mono ?_
       rintro e w11 ⟨rfl, hb⟩
       have B11 := hid (B10.out.below hb)
       clear hb
       clear a0 a1 a2 b0 b1 b2 c0 c1 c2
       obtain ⟨a0, a1, a2, -⟩ := vfacts B11.out.ha
       obtain ⟨b0, b1, b2, -⟩ := vfacts B11.out.hb
       obtain ⟨c0, c1, c2, -⟩ := vfacts B11.out.hc
       skip)
    | (go_at_call 14
       (with_reducible show Calls _ _ _ w11 _)
       refine (HH6.out _).mono ?_
       rintro e w12 ⟨rfl, hb⟩
       have B12 := hid (B11.out.below hb)
       clear hb
       clear a0 a1 a2 b0 b1 b2 c0 c1 c2
       obtain ⟨a0, a1, a2, -⟩ := vfacts B12.out.ha
       obtain ⟨b0, b1, b2, -⟩ := vfacts B12.out.hb
       obtain ⟨c0, c1, c2, -⟩ := vfacts B12.out.hc
       skip)
    | (go_at_call 14
       (with_reducible show Calls _ _ _ w12 _)
       refine (HH2.out _).mono ?_
       rintro e w13 ⟨rfl, hb⟩
       have B13 := hid (B12.out.below hb)
       clear hb
       clear a0 a1 a2 b0 b1 b2 c0 c1 c2
       obtain ⟨a0, a1, a2, -⟩ := vfacts B13.out.ha
       obtain ⟨b0, b1, b2, -⟩ := vfacts B13.out.hb
       obtain ⟨c0, c1, c2, -⟩ := vfacts B13.out.hc
       skip)
    | (go_at_call 9
       (with_reducible show Calls _ _ _ w13 _)
       refine (known_any _).mono ?_
       rintro e w14 ⟨rfl, hb⟩
       have B14 := hid (B13.out.below hb)
       clear hb
       clear a0 a1 a2 b0 b1 b2 c0 c1 c2
       obtain ⟨a0, a1, a2, -⟩ := vfacts B14.out.ha
       obtain ⟨b0, b1, b2, -⟩ := vfacts B14.out.hb
       obtain ⟨c0, c1, c2, -⟩ := vfacts B14.out.hc
       skip))
  go_ret
  exact ⟨rfl, B14.out.bel⟩

set_option maxRecDepth 100000 in
set_option maxHeartbeats 6400000 in
theorem order_m1_m1_ds (ka ia : Int) (sa : ByteArray) (_kb _ib : Int) (sb : ByteArray) (kc ic : Int) (sc : ByteArray) (w : World) (l1 : (sa.size : Int) ≤ 100000) (l2 : (sb.size : Int) ≤ 100000) (l3 : (sc.size : Int) ≤ 100000) (hs : (sa.toList == sb.toList) = false)
    (hAB : ∀ w, Calls Try.prog 12 #[vl ka ia sa, vl ka ia sb] w fun x w' => x = .returned (.int .i64 (-1)) ∧ Below w.heap.size w w')
    (hBC : ∀ w, Calls Try.prog 12 #[vl ka ia sb, vl kc ic sc] w fun x w' => x = .returned (.int .i64 (-1)) ∧ Below w.heap.size w w')
    (hAC : ∀ w, Calls Try.prog 12 #[vl ka ia sa, vl kc ic sc] w fun x w' => x = .returned (.int .i64 (-1)) ∧ Below w.heap.size w w')
    (hBA : ∀ w, Calls Try.prog 12 #[vl ka ia sb, vl ka ia sa] w fun x w' => x = .returned (.int .i64 1) ∧ Below w.heap.size w w')
    (hAA : ∀ w, Calls Try.prog 12 #[vl ka ia sa, vl ka ia sa] w fun x w' => x = .returned (.int .i64 0) ∧ Below w.heap.size w w')
    (hCa : ∀ w, Calls Try.prog 10 #[vl ka ia sa] w fun x w' => x = .returned (.int .i64 0) ∧ Below w.heap.size w w')
    (hCb : ∀ w, Calls Try.prog 10 #[vl ka ia sb] w fun x w' => x = .returned (.int .i64 0) ∧ Below w.heap.size w w')
    (hH3 : ∀ w, Calls Try.prog 14 #[.int .i64 3, vl ka ia sa, vl ka ia sb] w fun x w' => x = .returned (.bool true) ∧ Below w.heap.size w w')
    (hH1 : ∀ w, Calls Try.prog 14 #[.int .i64 1, vl ka ia sa, vl ka ia sb] w fun x w' => x = .returned (.bool false) ∧ Below w.heap.size w w')
    (hH5 : ∀ w, Calls Try.prog 14 #[.int .i64 5, vl ka ia sa, vl ka ia sb] w fun x w' => x = .returned (.bool false) ∧ Below w.heap.size w w')
    (hH4 : ∀ w, Calls Try.prog 14 #[.int .i64 4, vl ka ia sa, vl ka ia sb] w fun x w' => x = .returned (.bool true) ∧ Below w.heap.size w w')
    (hH6 : ∀ w, Calls Try.prog 14 #[.int .i64 6, vl ka ia sa, vl ka ia sb] w fun x w' => x = .returned (.bool false) ∧ Below w.heap.size w w')
    (hH2 : ∀ w, Calls Try.prog 14 #[.int .i64 2, vl ka ia sa, vl ka ia sb] w fun x w' => x = .returned (.bool true) ∧ Below w.heap.size w w') :
    Calls Try.prog 7 #[vl ka ia sa, vl ka ia sb, vl kc ic sc] w fun x w' => x = .returned (.bool true) ∧ Below w.heap.size w w' := by
  have HAB := hid hAB
  have HBC := hid hBC
  have HAC := hid hAC
  have HBA := hid hBA
  have HAA := hid hAA
  have HCa := hid hCa
  have HCb := hid hCb
  have HH3 := hid hH3
  have HH1 := hid hH1
  have HH5 := hid hH5
  have HH4 := hid hH4
  have HH6 := hid hH6
  have HH2 := hid hH2
  clear hAB hBC hAC hBA hAA hCa hCb hH3 hH1 hH5 hH4 hH6 hH2
  have B0 := hid (Ost.mk' w (vo ka ia sa) (vo ka ia sb) (vo kc ic sc))
  go_enter Try.func7, Try.ntmps7
  go_wp2_with (first
    | (go_at_call 12
       (with_reducible show Calls _ _ _ (((w.alloc _).alloc _).alloc _) _)
       refine (HAB.out _).mono ?_
       rintro e w1 ⟨rfl, hb⟩
       have B1 := hid (B0.out.below hb)
       clear hb
       obtain ⟨a0, a1, a2, -⟩ := vfacts B1.out.ha
       obtain ⟨b0, b1, b2, -⟩ := vfacts B1.out.hb
       obtain ⟨c0, c1, c2, -⟩ := vfacts B1.out.hc
       skip)
    | (go_at_call 12
       (with_reducible show Calls _ _ _ w1 _)
       refine (HBC.out _).mono ?_
       rintro e w2 ⟨rfl, hb⟩
       have B2 := hid (B1.out.below hb)
       clear hb
       clear a0 a1 a2 b0 b1 b2 c0 c1 c2
       obtain ⟨a0, a1, a2, -⟩ := vfacts B2.out.ha
       obtain ⟨b0, b1, b2, -⟩ := vfacts B2.out.hb
       obtain ⟨c0, c1, c2, -⟩ := vfacts B2.out.hc
       skip)
    | (go_at_call 12
       (with_reducible show Calls _ _ _ w2 _)
       refine (HAC.out _).mono ?_
       rintro e w3 ⟨rfl, hb⟩
       have B3 := hid (B2.out.below hb)
       clear hb
       clear a0 a1 a2 b0 b1 b2 c0 c1 c2
       obtain ⟨a0, a1, a2, -⟩ := vfacts B3.out.ha
       obtain ⟨b0, b1, b2, -⟩ := vfacts B3.out.hb
       obtain ⟨c0, c1, c2, -⟩ := vfacts B3.out.hc
       skip)
    | (go_at_call 12
       (with_reducible show Calls _ _ _ w3 _)
       refine (HBA.out _).mono ?_
       rintro e w4 ⟨rfl, hb⟩
       have B4 := hid (B3.out.below hb)
       clear hb
       clear a0 a1 a2 b0 b1 b2 c0 c1 c2
       obtain ⟨a0, a1, a2, -⟩ := vfacts B4.out.ha
       obtain ⟨b0, b1, b2, -⟩ := vfacts B4.out.hb
       obtain ⟨c0, c1, c2, -⟩ := vfacts B4.out.hc
       skip)
    | (go_at_call 12
       (with_reducible show Calls _ _ _ w4 _)
       refine (HAA.out _).mono ?_
       rintro e w5 ⟨rfl, hb⟩
       have B5 := hid (B4.out.below hb)
       clear hb
       clear a0 a1 a2 b0 b1 b2 c0 c1 c2
       obtain ⟨a0, a1, a2, -⟩ := vfacts B5.out.ha
       obtain ⟨b0, b1, b2, -⟩ := vfacts B5.out.hb
       obtain ⟨c0, c1, c2, -⟩ := vfacts B5.out.hc
       skip)
    | (go_at_call 10
       (with_reducible show Calls _ _ _ w5 _)
       refine (HCa.out _).mono ?_
       rintro e w6 ⟨rfl, hb⟩
       have B6 := hid (B5.out.below hb)
       clear hb
       clear a0 a1 a2 b0 b1 b2 c0 c1 c2
       obtain ⟨a0, a1, a2, -⟩ := vfacts B6.out.ha
       obtain ⟨b0, b1, b2, -⟩ := vfacts B6.out.hb
       obtain ⟨c0, c1, c2, -⟩ := vfacts B6.out.hc
       skip)
    | (go_at_call 10
       (with_reducible show Calls _ _ _ w6 _)
       refine (HCb.out _).mono ?_
       rintro e w7 ⟨rfl, hb⟩
       have B7 := hid (B6.out.below hb)
       clear hb
       clear a0 a1 a2 b0 b1 b2 c0 c1 c2
       obtain ⟨a0, a1, a2, -⟩ := vfacts B7.out.ha
       obtain ⟨b0, b1, b2, -⟩ := vfacts B7.out.hb
       obtain ⟨c0, c1, c2, -⟩ := vfacts B7.out.hc
       skip)
    | (go_at_call 14
       (with_reducible show Calls _ _ _ w7 _)
       refine (HH3.out _).mono ?_
       rintro e w8 ⟨rfl, hb⟩
       have B8 := hid (B7.out.below hb)
       clear hb
       clear a0 a1 a2 b0 b1 b2 c0 c1 c2
       obtain ⟨a0, a1, a2, -⟩ := vfacts B8.out.ha
       obtain ⟨b0, b1, b2, -⟩ := vfacts B8.out.hb
       obtain ⟨c0, c1, c2, -⟩ := vfacts B8.out.hc
       skip)
    | (go_at_call 14
       (with_reducible show Calls _ _ _ w8 _)
       refine (HH1.out _).mono ?_
       rintro e w9 ⟨rfl, hb⟩
       have B9 := hid (B8.out.below hb)
       clear hb
       clear a0 a1 a2 b0 b1 b2 c0 c1 c2
       obtain ⟨a0, a1, a2, -⟩ := vfacts B9.out.ha
       obtain ⟨b0, b1, b2, -⟩ := vfacts B9.out.hb
       obtain ⟨c0, c1, c2, -⟩ := vfacts B9.out.hc
       skip)
    | (go_at_call 14
       (with_reducible show Calls _ _ _ w9 _)
       refine (HH5.out _).mono ?_
       rintro e w10 ⟨rfl, hb⟩
       have B10 := hid (B9.out.below hb)
       clear hb
       clear a0 a1 a2 b0 b1 b2 c0 c1 c2
       obtain ⟨a0, a1, a2, -⟩ := vfacts B10.out.ha
       obtain ⟨b0, b1, b2, -⟩ := vfacts B10.out.hb
       obtain ⟨c0, c1, c2, -⟩ := vfacts B10.out.hc
       skip)
    | (go_at_call 14
       (with_reducible show Calls _ _ _ w10 _)
       refine (HH4.out _).mono ?_
       rintro e w11 ⟨rfl, hb⟩
       have B11 := hid (B10.out.below hb)
       clear hb
       clear a0 a1 a2 b0 b1 b2 c0 c1 c2
       obtain ⟨a0, a1, a2, -⟩ := vfacts B11.out.ha
       obtain ⟨b0, b1, b2, -⟩ := vfacts B11.out.hb
       obtain ⟨c0, c1, c2, -⟩ := vfacts B11.out.hc
       skip)
    | (go_at_call 14
       (with_reducible show Calls _ _ _ w11 _)
       refine (HH6.out _).mono ?_
       rintro e w12 ⟨rfl, hb⟩
       have B12 := hid (B11.out.below hb)
       clear hb
       clear a0 a1 a2 b0 b1 b2 c0 c1 c2
       obtain ⟨a0, a1, a2, -⟩ := vfacts B12.out.ha
       obtain ⟨b0, b1, b2, -⟩ := vfacts B12.out.hb
       obtain ⟨c0, c1, c2, -⟩ := vfacts B12.out.hc
       skip)
    | (go_at_call 14
       (with_reducible show Calls _ _ _ w12 _)
       refine (HH2.out _).mono ?_
       rintro e w13 ⟨rfl, hb⟩
       have B13 := hid (B12.out.below hb)
       clear hb
       clear a0 a1 a2 b0 b1 b2 c0 c1 c2
       obtain ⟨a0, a1, a2, -⟩ := vfacts B13.out.ha
       obtain ⟨b0, b1, b2, -⟩ := vfacts B13.out.hb
       obtain ⟨c0, c1, c2, -⟩ := vfacts B13.out.hc
       skip)
    | (go_at_call 9
       (with_reducible show Calls _ _ _ w13 _)
       refine (known_any _).mono ?_
       rintro e w14 ⟨rfl, hb⟩
       have B14 := hid (B13.out.below hb)
       clear hb
       clear a0 a1 a2 b0 b1 b2 c0 c1 c2
       obtain ⟨a0, a1, a2, -⟩ := vfacts B14.out.ha
       obtain ⟨b0, b1, b2, -⟩ := vfacts B14.out.hb
       obtain ⟨c0, c1, c2, -⟩ := vfacts B14.out.hc
       skip))
  go_ret
  exact ⟨rfl, B14.out.bel⟩

end Go.Proofs.Ytiammlngbejhkaa
