import Derived.Test.YtiammlngbejhkaaK17
import Derived.Test.YtiammlngbejhkaaK18
import Derived.Test.YtiammlngbejhkaaK19
namespace Go.Proofs.Ytiammlngbejhkaa
open Go.RowKit

set_option maxRecDepth 100000 in
set_option maxHeartbeats 6400000 in
theorem back_wnoA_err (k i : Int) (s : ByteArray) (l j : Int) (t : ByteArray) (vb : Value) (bs : List Int) (w : World) (hb : Sn w vb bs) (hl : (bs.length : Int) ≤ 100000) (hs : (s.size : Int) ≤ 100000) (ht : (t.size : Int) ≤ 100000) (xs : List Int) (hxl : xs.length ≤ 1000000) (hE : ∀ w, Calls Try.prog 28 #[vl k i s] w (EncOk xs w)) (hC : ∀ w, Calls Try.prog 10 #[vl k i s] w fun x w' => x = .returned (.int .i64 0) ∧ Below w.heap.size w w') (hD : ∀ v w, Sl w v xs → Calls Try.prog 31 #[v] w fun e w' => e = .returned (.tuple #[vl k i s, .int .i64 0]) ∧ Below w.heap.size w w') (hF : ∀ w, Calls Try.prog 28 #[vl l j t] w (EncNo 4 w)) (en : Int) (hen : en ≠ 0) (hG : ∀ w, Sl w vb bs → Calls Try.prog 31 #[vb] w fun e w' => e = .returned (.tuple #[vl 0 0 emp, .int .i64 en]) ∧ Below w.heap.size w w') :
    Calls Try.prog 6 #[vl k i s, vl l j t, vb] w fun x w' => x = .returned (.bool true) ∧ Below w.heap.size w w' := by
  have HE := hid hE
  have HC := hid hC
  have HD := hid hD
  have HF := hid hF
  have HG := hid hG
  have hen2 : (en == 0) = false := by simpa using hen
  clear hE hC hD hF hG
  have B0 := hid (Bst.mk' w k i s l j t hb.1)
  obtain ⟨⟨ao, cc, rfl, hcc, hx⟩, hsn⟩ := hb
  clear hcc hx hsn
  go_enter Try.func6, Try.ntmps6
  go_upto_region 9 with (first
    | (go_at_call 28
       (with_reducible show Calls _ _ _ ((w.alloc _).alloc _) _)
       refine (HE.out _).mono ?_
       rintro e w1 ⟨gX, rfl, hoX, -, hb⟩
       have B1 := hid (B0.out.below hb)
       have X1 := hid hoX
       obtain ⟨c0, c1, c2, -⟩ := vfacts B1.out.hv
       obtain ⟨d0, d1, d2, -⟩ := vfacts B1.out.hw
       clear hb hoX)
    | (go_at_call 10
       (with_reducible show Calls _ _ _ w1 _)
       refine (HC.out _).mono ?_
       rintro e w2 ⟨rfl, hb⟩
       have B2 := hid (B1.out.below hb)
       have X2 := hid (blk_of hb X1.out (lt_of X1.out))
       obtain ⟨c0, c1, c2, -⟩ := vfacts B2.out.hv
       obtain ⟨d0, d1, d2, -⟩ := vfacts B2.out.hw
       clear hb)
    | (go_at_call 31
       (with_reducible show Calls _ _ _ w2 _)
       refine (HD.out _ _ (sl_of_owns ((show Own w2 gX xs from X2.out).owns (Nat.zero_le _) (by unfold maxLen; omega)))).mono ?_
       rintro e w3 ⟨rfl, hb⟩
       have B3 := hid (B2.out.below hb)
       have X3 := hid (blk_of hb X2.out (lt_of X2.out))
       have B3a := hid (B3.out.below (below1 w3 (vo k i s)))
       have n3 : w.heap.size < w3.heap.size := lt_of B3.out.hv
       have n3b : w.heap.size + 1 < w3.heap.size := lt_of B3.out.hw
       obtain ⟨c0, c1, c2, -⟩ := vfacts B3.out.hv
       obtain ⟨d0, d1, d2, -⟩ := vfacts B3.out.hw
       clear hb)
    | (go_at_call 28
       (with_reducible show Calls _ _ _ (w3.alloc _) _)
       refine (HF.out _).mono ?_
       rintro e w4 ⟨rfl, hb⟩
       have B4 := hid (B3a.out.below hb)
       obtain ⟨p0, p1, p2, -⟩ := vfacts (blk_of hb (heap_alloc_new w3 (vo k i s)) (by simp))
       obtain ⟨c0, c1, c2, -⟩ := vfacts B4.out.hv
       obtain ⟨d0, d1, d2, -⟩ := vfacts B4.out.hw
       clear hb))
  go_quiet (fail)
  have B5 := hid (B4.out.below (show Below w4.heap.size w4 (w4.drewN nq) from ⟨rfl, rfl, rfl, Nat.le_refl _, fun _ _ => rfl⟩))
  go_wp2_with (first
    | (go_at_call 31
       (with_reducible show Calls _ _ _ (w4.drewN _) _)
       refine (HG.out _ B5.out.sb).mono ?_
       rintro e w6 ⟨rfl, hb⟩
       have B6 := hid ((B5.out.below hb).below (below1 w6 (vo 0 0 emp)))
       clear hb)
    | (go_at_call 9
       (with_reducible show Calls _ _ _ (w6.alloc _) _)
       refine (known_any _).mono ?_
       rintro e w7 ⟨rfl, hb⟩
       have BF := hid (below_on B6.out.hb hb)
       clear hb))
  go_ret
  exact ⟨rfl, BF.out⟩

set_option maxRecDepth 100000 in
set_option maxHeartbeats 6400000 in
theorem back_wnoA_ok (k i : Int) (s : ByteArray) (l j : Int) (t : ByteArray) (vb : Value) (bs : List Int) (w : World) (hb : Sn w vb bs) (hl : (bs.length : Int) ≤ 100000) (hs : (s.size : Int) ≤ 100000) (ht : (t.size : Int) ≤ 100000) (xs : List Int) (hxl : xs.length ≤ 1000000) (hE : ∀ w, Calls Try.prog 28 #[vl k i s] w (EncOk xs w)) (hC : ∀ w, Calls Try.prog 10 #[vl k i s] w fun x w' => x = .returned (.int .i64 0) ∧ Below w.heap.size w w') (hD : ∀ v w, Sl w v xs → Calls Try.prog 31 #[v] w fun e w' => e = .returned (.tuple #[vl k i s, .int .i64 0]) ∧ Below w.heap.size w w') (hF : ∀ w, Calls Try.prog 28 #[vl l j t] w (EncNo 4 w)) (zk zi : Int) (zs : ByteArray) (hG : ∀ w, Sl w vb bs → Calls Try.prog 31 #[vb] w fun e w' => e = .returned (.tuple #[vl zk zi zs, .int .i64 0]) ∧ Below w.heap.size w w') (hH : ∀ w, Calls Try.prog 28 #[vl zk zi zs] w (EncOk bs w)) (hI : ∀ w, Calls Try.prog 10 #[vl zk zi zs] w fun x w' => x = .returned (.int .i64 0) ∧ Below w.heap.size w w') :
    Calls Try.prog 6 #[vl k i s, vl l j t, vb] w fun x w' => x = .returned (.bool true) ∧ Below w.heap.size w w' := by
  have HE := hid hE
  have HC := hid hC
  have HD := hid hD
  have HF := hid hF
  have HG := hid hG
  have HH := hid hH
  have HI := hid hI
  clear hE hC hD hF hG hH hI
  have B0 := hid (Bst.mk' w k i s l j t hb.1)
  obtain ⟨⟨ao, cc, rfl, hcc, hx⟩, hsn⟩ := hb
  clear hcc hx hsn
  go_enter Try.func6, Try.ntmps6
  go_upto_region 9 with (first
    | (go_at_call 28
       (with_reducible show Calls _ _ _ ((w.alloc _).alloc _) _)
       refine (HE.out _).mono ?_
       rintro e w1 ⟨gX, rfl, hoX, -, hb⟩
       have B1 := hid (B0.out.below hb)
       have X1 := hid hoX
       obtain ⟨c0, c1, c2, -⟩ := vfacts B1.out.hv
       obtain ⟨d0, d1, d2, -⟩ := vfacts B1.out.hw
       clear hb hoX)
    | (go_at_call 10
       (with_reducible show Calls _ _ _ w1 _)
       refine (HC.out _).mono ?_
       rintro e w2 ⟨rfl, hb⟩
       have B2 := hid (B1.out.below hb)
       have X2 := hid (blk_of hb X1.out (lt_of X1.out))
       obtain ⟨c0, c1, c2, -⟩ := vfacts B2.out.hv
       obtain ⟨d0, d1, d2, -⟩ := vfacts B2.out.hw
       clear hb)
    | (go_at_call 31
       (with_reducible show Calls _ _ _ w2 _)
       refine (HD.out _ _ (sl_of_owns ((show Own w2 gX xs from X2.out).owns (Nat.zero_le _) (by unfold maxLen; omega)))).mono ?_
       rintro e w3 ⟨rfl, hb⟩
       have B3 := hid (B2.out.below hb)
       have X3 := hid (blk_of hb X2.out (lt_of X2.out))
       have B3a := hid (B3.out.below (below1 w3 (vo k i s)))
       have n3 : w.heap.size < w3.heap.size := lt_of B3.out.hv
       have n3b : w.heap.size + 1 < w3.heap.size := lt_of B3.out.hw
       obtain ⟨c0, c1, c2, -⟩ := vfacts B3.out.hv
       obtain ⟨d0, d1, d2, -⟩ := vfacts B3.out.hw
       clear hb)
    | (go_at_call 28
       (with_reducible show Calls _ _ _ (w3.alloc _) _)
       refine (HF.out _).mono ?_
       rintro e w4 ⟨rfl, hb⟩
       have B4 := hid (B3a.out.below hb)
       obtain ⟨p0, p1, p2, -⟩ := vfacts (blk_of hb (heap_alloc_new w3 (vo k i s)) (by simp))
       obtain ⟨c0, c1, c2, -⟩ := vfacts B4.out.hv
       obtain ⟨d0, d1, d2, -⟩ := vfacts B4.out.hw
       clear hb))
  go_quiet (fail)
  have B5 := hid (B4.out.below (show Below w4.heap.size w4 (w4.drewN nq) from ⟨rfl, rfl, rfl, Nat.le_refl _, fun _ _ => rfl⟩))
  go_wp2_with (first
    | (go_at_call 31
       (with_reducible show Calls _ _ _ (w4.drewN _) _)
       refine (HG.out _ B5.out.sb).mono ?_
       rintro e w6 ⟨rfl, hb⟩
       have B6 := hid ((B5.out.below hb).below (below1 w6 (vo zk zi zs)))
       clear hb)
    | (go_at_call 28
       (with_reducible show Calls _ _ _ (w6.alloc _) _)
       refine (HH.out _).mono ?_
       rintro e w7 ⟨gZ, rfl, hoZ, -, hb⟩
       have B7 := hid (B6.out.below hb)
       have Z7 := hid (And.intro (blk_of hb (heap_alloc_new w6 (vo zk zi zs)) (by simp)) hoZ)
       obtain ⟨z0, z1, z2, -⟩ := vfacts Z7.out.1
       clear hb hoZ)
    | (go_at_call 30
       (with_reducible show Calls _ _ _ w7 _)
       refine (bytes_any _ _ bs bs _ (sl_of_owns ((show Own w7 gZ bs from Z7.out.2).owns (Nat.zero_le _) (by unfold maxLen; omega))) B7.out.sb (by omega)).mono ?_
       rintro e w8 ⟨hdn, rfl⟩
       rw [show decide (bs = bs) = true by simp]
       have B8 := hid (B7.out.below (dn_below hdn))
       have Z8 := hid (And.intro (blk_of (dn_below hdn) Z7.out.1 (lt_of Z7.out.1)) trivial)
       obtain ⟨z0, z1, z2, -⟩ := vfacts Z8.out.1
       clear hdn)
    | (go_at_call 10
       (with_reducible show Calls _ _ _ w8 _)
       refine (HI.out _).mono ?_
       rintro e w9 ⟨rfl, hb⟩
       have B9 := hid (B8.out.below hb)
       clear hb)
    | (go_at_call 9
       (with_reducible show Calls _ _ _ w9 _)
       refine (known_any _).mono ?_
       rintro e w99 ⟨rfl, hb⟩
       have BF := hid (below_on B9.out.hb hb)
       clear hb))
  go_ret
  exact ⟨rfl, BF.out⟩

set_option maxRecDepth 100000 in
set_option maxHeartbeats 6400000 in
theorem back_wnoB_err (k i : Int) (s : ByteArray) (l j : Int) (t : ByteArray) (vb : Value) (bs : List Int) (w : World) (hb : Sn w vb bs) (hl : (bs.length : Int) ≤ 100000) (hs : (s.size : Int) ≤ 100000) (ht : (t.size : Int) ≤ 100000) (xs : List Int) (hxl : xs.length ≤ 1000000) (hE : ∀ w, Calls Try.prog 28 #[vl k i s] w (EncOk xs w)) (hC : ∀ w, Calls Try.prog 10 #[vl k i s] w fun x w' => x = .returned (.int .i64 0) ∧ Below w.heap.size w w') (hD : ∀ v w, Sl w v xs → Calls Try.prog 31 #[v] w fun e w' => e = .returned (.tuple #[vl k i s, .int .i64 0]) ∧ Below w.heap.size w w') (hF : ∀ w, Calls Try.prog 28 #[vl l j t] w (EncNo 14 w)) (en : Int) (hen : en ≠ 0) (hG : ∀ w, Sl w vb bs → Calls Try.prog 31 #[vb] w fun e w' => e = .returned (.tuple #[vl 0 0 emp, .int .i64 en]) ∧ Below w.heap.size w w') :
    Calls Try.prog 6 #[vl k i s, vl l j t, vb] w fun x w' => x = .returned (.bool true) ∧ Below w.heap.size w w' := by
  have HE := hid hE
  have HC := hid hC
  have HD := hid hD
  have HF := hid hF
  have HG := hid hG
  have hen2 : (en == 0) = false := by simpa using hen
  clear hE hC hD hF hG
  have B0 := hid (Bst.mk' w k i s l j t hb.1)
  obtain ⟨⟨ao, cc, rfl, hcc, hx⟩, hsn⟩ := hb
  clear hcc hx hsn
  go_enter Try.func6, Try.ntmps6
  go_upto_region 9 with (first
    | (go_at_call 28
       (with_reducible show Calls _ _ _ ((w.alloc _).alloc _) _)
       refine (HE.out _).mono ?_
       rintro e w1 ⟨gX, rfl, hoX, -, hb⟩
       have B1 := hid (B0.out.below hb)
       have X1 := hid hoX
       obtain ⟨c0, c1, c2, -⟩ := vfacts B1.out.hv
       obtain ⟨d0, d1, d2, -⟩ := vfacts B1.out.hw
       clear hb hoX)
    | (go_at_call 10
       (with_reducible show Calls _ _ _ w1 _)
       refine (HC.out _).mono ?_
       rintro e w2 ⟨rfl, hb⟩
       have B2 := hid (B1.out.below hb)
       have X2 := hid (blk_of hb X1.out (lt_of X1.out))
       obtain ⟨c0, c1, c2, -⟩ := vfacts B2.out.hv
       obtain ⟨d0, d1, d2, -⟩ := vfacts B2.out.hw
       clear hb)
    | (go_at_call 31
       (with_reducible show Calls _ _ _ w2 _)
       refine (HD.out _ _ (sl_of_owns ((show Own w2 gX xs from X2.out).owns (Nat.zero_le _) (by unfold maxLen; omega)))).mono ?_
       rintro e w3 ⟨rfl, hb⟩
       have B3 := hid (B2.out.below hb)
       have X3 := hid (blk_of hb X2.out (lt_of X2.out))
       have B3a := hid (B3.out.below (below1 w3 (vo k i s)))
       have n3 : w.heap.size < w3.heap.size := lt_of B3.out.hv
       have n3b : w.heap.size + 1 < w3.heap.size := lt_of B3.out.hw
       obtain ⟨c0, c1, c2, -⟩ := vfacts B3.out.hv
       obtain ⟨d0, d1, d2, -⟩ := vfacts B3.out.hw
       clear hb)
    | (go_at_call 28
       (with_reducible show Calls _ _ _ (w3.alloc _) _)
       refine (HF.out _).mono ?_
       rintro e w4 ⟨rfl, hb⟩
       have B4 := hid (B3a.out.below hb)
       obtain ⟨p0, p1, p2, -⟩ := vfacts (blk_of hb (heap_alloc_new w3 (vo k i s)) (by simp))
       obtain ⟨c0, c1, c2, -⟩ := vfacts B4.out.hv
       obtain ⟨d0, d1, d2, -⟩ := vfacts B4.out.hw
       clear hb))
  go_quiet (fail)
  have B5 := hid (B4.out.below (show Below w4.heap.size w4 (w4.drewN nq) from ⟨rfl, rfl, rfl, Nat.le_refl _, fun _ _ => rfl⟩))
  go_wp2_with (first
    | (go_at_call 31
       (with_reducible show Calls _ _ _ (w4.drewN _) _)
       refine (HG.out _ B5.out.sb).mono ?_
       rintro e w6 ⟨rfl, hb⟩
       have B6 := hid ((B5.out.below hb).below (below1 w6 (vo 0 0 emp)))
       clear hb)
    | (go_at_call 9
       (with_reducible show Calls _ _ _ (w6.alloc _) _)
       refine (known_any _).mono ?_
       rintro e w7 ⟨rfl, hb⟩
       have BF := hid (below_on B6.out.hb hb)
       clear hb))
  go_ret
  exact ⟨rfl, BF.out⟩

set_option maxRecDepth 100000 in
set_option maxHeartbeats 6400000 in
theorem back_wnoB_ok (k i : Int) (s : ByteArray) (l j : Int) (t : ByteArray) (vb : Value) (bs : List Int) (w : World) (hb : Sn w vb bs) (hl : (bs.length : Int) ≤ 100000) (hs : (s.size : Int) ≤ 100000) (ht : (t.size : Int) ≤ 100000) (xs : List Int) (hxl : xs.length ≤ 1000000) (hE : ∀ w, Calls Try.prog 28 #[vl k i s] w (EncOk xs w)) (hC : ∀ w, Calls Try.prog 10 #[vl k i s] w fun x w' => x = .returned (.int .i64 0) ∧ Below w.heap.size w w') (hD : ∀ v w, Sl w v xs → Calls Try.prog 31 #[v] w fun e w' => e = .returned (.tuple #[vl k i s, .int .i64 0]) ∧ Below w.heap.size w w') (hF : ∀ w, Calls Try.prog 28 #[vl l j t] w (EncNo 14 w)) (zk zi : Int) (zs : ByteArray) (hG : ∀ w, Sl w vb bs → Calls Try.prog 31 #[vb] w fun e w' => e = .returned (.tuple #[vl zk zi zs, .int .i64 0]) ∧ Below w.heap.size w w') (hH : ∀ w, Calls Try.prog 28 #[vl zk zi zs] w (EncOk bs w)) (hI : ∀ w, Calls Try.prog 10 #[vl zk zi zs] w fun x w' => x = .returned (.int .i64 0) ∧ Below w.heap.size w w') :
    Calls Try.prog 6 #[vl k i s, vl l j t, vb] w fun x w' => x = .returned (.bool true) ∧ Below w.heap.size w w' := by
  have HE := hid hE
  have HC := hid hC
  have HD := hid hD
  have HF := hid hF
  have HG := hid hG
  have HH := hid hH
  have HI := hid hI
  clear hE hC hD hF hG hH hI
  have B0 := hid (Bst.mk' w k i s l j t hb.1)
  obtain ⟨⟨ao, cc, rfl, hcc, hx⟩, hsn⟩ := hb
  clear hcc hx hsn
  go_enter Try.func6, Try.ntmps6
  go_upto_region 9 with (first
    | (go_at_call 28
       (with_reducible show Calls _ _ _ ((w.alloc _).alloc _) _)
       refine (HE.out _).mono ?_
       rintro e w1 ⟨gX, rfl, hoX, -, hb⟩
       have B1 := hid (B0.out.below hb)
       have X1 := hid hoX
       obtain ⟨c0, c1, c2, -⟩ := vfacts B1.out.hv
       obtain ⟨d0, d1, d2, -⟩ := vfacts B1.out.hw
       clear hb hoX)
    | (go_at_call 10
       (with_reducible show Calls _ _ _ w1 _)
       refine (HC.out _).mono ?_
       rintro e w2 ⟨rfl, hb⟩
       have B2 := hid (B1.out.below hb)
       have X2 := hid (blk_of hb X1.out (lt_of X1.out))
       obtain ⟨c0, c1, c2, -⟩ := vfacts B2.out.hv
       obtain ⟨d0, d1, d2, -⟩ := vfacts B2.out.hw
       clear hb)
    | (go_at_call 31
       (with_reducible show Calls _ _ _ w2 _)
       refine (HD.out _ _ (sl_of_owns ((show Own w2 gX xs from X2.out).owns (Nat.zero_le _) (by unfold maxLen; omega)))).mono ?_
       rintro e w3 ⟨rfl, hb⟩
       have B3 := hid (B2.out.below hb)
       have X3 := hid (blk_of hb X2.out (lt_of X2.out))
       have B3a := hid (B3.out.below (below1 w3 (vo k i s)))
       have n3 : w.heap.size < w3.heap.size := lt_of B3.out.hv
       have n3b : w.heap.size + 1 < w3.heap.size := lt_of B3.out.hw
       obtain ⟨c0, c1, c2, -⟩ := vfacts B3.out.hv
       obtain ⟨d0, d1, d2, -⟩ := vfacts B3.out.hw
       clear hb)
    | (go_at_call 28
       (with_reducible show Calls _ _ _ (w3.alloc _) _)
       refine (HF.out _).mono ?_
       rintro e w4 ⟨rfl, hb⟩
       have B4 := hid (B3a.out.below hb)
       obtain ⟨p0, p1, p2, -⟩ := vfacts (blk_of hb (heap_alloc_new w3 (vo k i s)) (by simp))
       obtain ⟨c0, c1, c2, -⟩ := vfacts B4.out.hv
       obtain ⟨d0, d1, d2, -⟩ := vfacts B4.out.hw
       clear hb))
  go_quiet (fail)
  have B5 := hid (B4.out.below (show Below w4.heap.size w4 (w4.drewN nq) from ⟨rfl, rfl, rfl, Nat.le_refl _, fun _ _ => rfl⟩))
  go_wp2_with (first
    | (go_at_call 31
       (with_reducible show Calls _ _ _ (w4.drewN _) _)
       refine (HG.out _ B5.out.sb).mono ?_
       rintro e w6 ⟨rfl, hb⟩
       have B6 := hid ((B5.out.below hb).below (below1 w6 (vo zk zi zs)))
       clear hb)
    | (go_at_call 28
       (with_reducible show Calls _ _ _ (w6.alloc _) _)
       refine (HH.out _).mono ?_
       rintro e w7 ⟨gZ, rfl, hoZ, -, hb⟩
       have B7 := hid (B6.out.below hb)
       have Z7 := hid (And.intro (blk_of hb (heap_alloc_new w6 (vo zk zi zs)) (by simp)) hoZ)
       obtain ⟨z0, z1, z2, -⟩ := vfacts Z7.out.1
       clear hb hoZ)
    | (go_at_call 30
       (with_reducible show Calls _ _ _ w7 _)
       refine (bytes_any _ _ bs bs _ (sl_of_owns ((show Own w7 gZ bs from Z7.out.2).owns (Nat.zero_le _) (by unfold maxLen; omega))) B7.out.sb (by omega)).mono ?_
       rintro e w8 ⟨hdn, rfl⟩
       rw [show decide (bs = bs) = true by simp]
       have B8 := hid (B7.out.below (dn_below hdn))
       have Z8 := hid (And.intro (blk_of (dn_below hdn) Z7.out.1 (lt_of Z7.out.1)) trivial)
       obtain ⟨z0, z1, z2, -⟩ := vfacts Z8.out.1
       clear hdn)
    | (go_at_call 10
       (with_reducible show Calls _ _ _ w8 _)
       refine (HI.out _).mono ?_
       rintro e w9 ⟨rfl, hb⟩
       have B9 := hid (B8.out.below hb)
       clear hb)
    | (go_at_call 9
       (with_reducible show Calls _ _ _ w9 _)
       refine (known_any _).mono ?_
       rintro e w99 ⟨rfl, hb⟩
       have BF := hid (below_on B9.out.hb hb)
       clear hb))
  go_ret
  exact ⟨rfl, BF.out⟩

end Go.Proofs.Ytiammlngbejhkaa

namespace Go.Proofs.Ytiammlngbejhkaa
open Go.RowKit

theorem enc_ok (k i : Int) (s : ByteArray) (h0 : -9223372036854775808 ≤ i) (h1 : i < 9223372036854775808) (hc : chk k i s = 0) : ∀ w, Calls Try.prog 28 #[vl k i s] w (EncOk (encB k i s) w) :=
  fun w => (encode_any k i s h0 h1 w).mono (fun e w' h => by
    rcases h with ⟨h, _⟩ | ⟨_, h⟩
    · exact absurd hc h
    · exact h)

theorem chk_ok (k i : Int) (s : ByteArray) (r : Int) (hc : chk k i s = r) : ∀ w, Calls Try.prog 10 #[vl k i s] w fun x w' => x = .returned (.int .i64 r) ∧ Below w.heap.size w w' := by
  intro w
  rw [← hc]
  exact check_any k i s w

theorem chk_vals (k i : Int) (s : ByteArray) : chk k i s = 0 ∨ chk k i s = 4 ∨ chk k i s = 14 := by
  unfold chk
  split
  · split <;> simp
  · split
    · split
      · split <;> simp
      · simp
    · split <;> simp

set_option maxRecDepth 100000 in
set_option maxHeartbeats 1600000 in
theorem back_any (k i : Int) (s : ByteArray) (l j : Int) (t : ByteArray) (vb : Value) (bs : List Int) (w : World) (hb : Sn w vb bs) (ho : Oct bs)
    (hi0 : -9223372036854775808 ≤ i) (hi1 : i < 9223372036854775808) (hj0 : -9223372036854775808 ≤ j) (hj1 : j < 9223372036854775808) :
    Calls Try.prog 6 #[vl k i s, vl l j t, vb] w fun x w' => x = .returned (.bool true) ∧ Below w.heap.size w w' := by
  by_cases hs : (s.size : Int) ≤ 100000
  · by_cases ht : (t.size : Int) ≤ 100000
    · by_cases hl : (bs.length : Int) ≤ 100000
      · -- what Decode says of the bytes
        have hdec : (∃ en, en ≠ 0 ∧ ∀ w, Sl w vb bs → Calls Try.prog 31 #[vb] w fun e w' => e = .returned (.tuple #[vl 0 0 emp, .int .i64 en]) ∧ Below w.heap.size w w') ∨
            (∃ zk zi zs, (∀ w, Sl w vb bs → Calls Try.prog 31 #[vb] w fun e w' => e = .returned (.tuple #[vl zk zi zs, .int .i64 0]) ∧ Below w.heap.size w w') ∧ (∀ w, Calls Try.prog 28 #[vl zk zi zs] w (EncOk bs w)) ∧
              (∀ w, Calls Try.prog 10 #[vl zk zi zs] w fun x w' => x = .returned (.int .i64 0) ∧ Below w.heap.size w w')) := by
          obtain ⟨⟨⟨zk, zi, zx⟩, en⟩, hz⟩ : ∃ d, decZ bs = d := ⟨_, rfl⟩
          by_cases he : en = 0
          · subst he
            obtain ⟨h1, h2, h3, h4⟩ := enc_dec bs ho zk zi zx hz
            refine .inr ⟨zk, zi, mkStr zx, ?_, ?_, chk_ok _ _ _ _ h1⟩
            · intro w h
              refine (decode_any vb bs w h ho (by omega)).mono ?_
              rintro e w' ⟨rfl, hb⟩
              exact ⟨by rw [hz]; simp [decV], hb⟩
            · have := enc_ok zk zi (mkStr zx) h3.1 h3.2 h1
              rw [h2] at this
              exact this
          · refine .inl ⟨en, he, ?_⟩
            intro w h
            refine (decode_any vb bs w h ho (by omega)).mono ?_
            rintro e w' ⟨rfl, hb⟩
            exact ⟨by rw [hz]; simp [decV, he], hb⟩
        by_cases hc : chk k i s = 0
        · have hE := enc_ok k i s hi0 hi1 hc
          have hC := chk_ok k i s 0 hc
          have hD : ∀ v w, Sl w v (encB k i s) → Calls Try.prog 31 #[v] w fun e w' => e = .returned (.tuple #[vl k i s, .int .i64 0]) ∧ Below w.heap.size w w' := fun v w h => decode_enc k i s hi0 hi1 (by omega) hc v w h
          have hxl := encB_len k i s (by omega)
          by_cases hd : chk l j t = 0
          · have hF := enc_ok l j t hj0 hj1 hd
            have hyl := encB_len l j t (by omega)
            have hinj := enc_inj k i s l j t hi0 hi1 hj0 hj1 hc hd
            by_cases ek : k = l
            · by_cases ei : i = j
              · by_cases es : s = t
                · have hxy : encB k i s = encB l j t := by rw [ek, ei, es]
                  rcases hdec with ⟨en, h1, h2⟩ | ⟨zk, zi, zs, h1, h2, h3⟩
                  · exact back_eq_err k i s l j t vb bs w hb hl hs ht _ hxl hE hC hD _ hyl hF hxy ek ei es en h1 h2
                  · exact back_eq_ok k i s l j t vb bs w hb hl hs ht _ hxl hE hC hD _ hyl hF hxy ek ei es zk zi zs h1 h2 h3
                · have hxy : encB k i s ≠ encB l j t := fun h => es (hinj h).2.2
                  have hst : (s.toList == t.toList) = false := by
                    rw [beq_eq_false_iff_ne]
                    exact fun h => es (toList_inj h)
                  rcases hdec with ⟨en, h1, h2⟩ | ⟨zk, zi, zs, h1, h2, h3⟩
                  · exact back_nes_err k i s l j t vb bs w hb hl hs ht _ hxl hE hC hD _ hyl hF hxy ek ei hst en h1 h2
                  · exact back_nes_ok k i s l j t vb bs w hb hl hs ht _ hxl hE hC hD _ hyl hF hxy ek ei hst zk zi zs h1 h2 h3
              · have hxy : encB k i s ≠ encB l j t := fun h => ei (hinj h).2.1
                rcases hdec with ⟨en, h1, h2⟩ | ⟨zk, zi, zs, h1, h2, h3⟩
                · exact back_nei_err k i s l j t vb bs w hb hl hs ht _ hxl hE hC hD _ hyl hF hxy ek (by simpa using ei) en h1 h2
                · exact back_nei_ok k i s l j t vb bs w hb hl hs ht _ hxl hE hC hD _ hyl hF hxy ek (by simpa using ei) zk zi zs h1 h2 h3
            · have hxy : encB k i s ≠ encB l j t := fun h => ek (hinj h).1
              rcases hdec with ⟨en, h1, h2⟩ | ⟨zk, zi, zs, h1, h2, h3⟩
              · exact back_nek_err k i s l j t vb bs w hb hl hs ht _ hxl hE hC hD _ hyl hF hxy (by simpa using ek) en h1 h2
              · exact back_nek_ok k i s l j t vb bs w hb hl hs ht _ hxl hE hC hD _ hyl hF hxy (by simpa using ek) zk zi zs h1 h2 h3
          · have hF : ∀ w, Calls Try.prog 28 #[vl l j t] w (EncNo (chk l j t) w) := fun w => encode_no l j t _ rfl hd w
            rcases chk_vals l j t with h | h | h
            · exact absurd h hd
            · rw [h] at hF
              rcases hdec with ⟨en, h1, h2⟩ | ⟨zk, zi, zs, h1, h2, h3⟩
              · exact back_wnoA_err k i s l j t vb bs w hb hl hs ht _ hxl hE hC hD hF en h1 h2
              · exact back_wnoA_ok k i s l j t vb bs w hb hl hs ht _ hxl hE hC hD hF zk zi zs h1 h2 h3
            · rw [h] at hF
              rcases hdec with ⟨en, h1, h2⟩ | ⟨zk, zi, zs, h1, h2, h3⟩
              · exact back_wnoB_err k i s l j t vb bs w hb hl hs ht _ hxl hE hC hD hF en h1 h2
              · exact back_wnoB_ok k i s l j t vb bs w hb hl hs ht _ hxl hE hC hD hF zk zi zs h1 h2 h3
        · have hE : ∀ w, Calls Try.prog 28 #[vl k i s] w (EncNo (chk k i s) w) := fun w => encode_no k i s _ rfl hc w
          have hC := chk_ok k i s _ rfl
          rcases hdec with ⟨en, h1, h2⟩ | ⟨zk, zi, zs, h1, h2, h3⟩
          · exact back_no_err k i s l j t vb bs w hb hl hs ht _ hc hE hC en h1 h2
          · exact back_no_ok k i s l j t vb bs w hb hl hs ht _ hc hE hC zk zi zs h1 h2 h3
      · have hB0 := hid (below2 w (vo k i s) (vo l j t))
        obtain ⟨⟨ao, cc, rfl, hcc, hx⟩, hsn⟩ := hb
        clear hcc hx hsn
        go_enter Try.func6, Try.ntmps6
        go_wp2_with (go_at_call 9; refine (known_any _).mono ?_; rintro e w1 ⟨rfl, hb⟩)
        go_ret
        exact ⟨rfl, below_on hB0.out hb⟩
    · have hB0 := hid (below2 w (vo k i s) (vo l j t))
      obtain ⟨⟨ao, cc, rfl, hcc, hx⟩, hsn⟩ := hb
      clear hcc hx hsn
      go_enter Try.func6, Try.ntmps6
      go_wp2_with (go_at_call 9; refine (known_any _).mono ?_; rintro e w1 ⟨rfl, hb⟩)
      go_ret
      exact ⟨rfl, below_on hB0.out hb⟩
  · have hB0 := hid (below2 w (vo k i s) (vo l j t))
    obtain ⟨⟨ao, cc, rfl, hcc, hx⟩, hsn⟩ := hb
    clear hcc hx hsn
    go_enter Try.func6, Try.ntmps6
    go_wp2_with (go_at_call 9; refine (known_any _).mono ?_; rintro e w1 ⟨rfl, hb⟩)
    go_ret
    exact ⟨rfl, below_on hB0.out hb⟩

end Go.Proofs.Ytiammlngbejhkaa
