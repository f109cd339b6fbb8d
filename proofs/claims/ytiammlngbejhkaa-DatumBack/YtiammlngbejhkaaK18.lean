import Derived.Test.YtiammlngbejhkaaK17
namespace Go.Proofs.Ytiammlngbejhkaa
open Go.RowKit

set_option maxRecDepth 100000 in
set_option maxHeartbeats 6400000 in
theorem back_eq_err (k i : Int) (s : ByteArray) (l j : Int) (t : ByteArray) (vb : Value) (bs : List Int) (w : World) (hb : Sn w vb bs) (hl : (bs.length : Int) ≤ 100000) (hs : (s.size : Int) ≤ 100000) (ht : (t.size : Int) ≤ 100000) (xs : List Int) (hxl : xs.length ≤ 1000000) (hE : ∀ w, Calls Try.prog 28 #[vl k i s] w (EncOk xs w)) (hC : ∀ w, Calls Try.prog 10 #[vl k i s] w fun x w' => x = .returned (.int .i64 0) ∧ Below w.heap.size w w') (hD : ∀ v w, Sl w v xs → Calls Try.prog 31 #[v] w fun e w' => e = .returned (.tuple #[vl k i s, .int .i64 0]) ∧ Below w.heap.size w w') (ys : List Int) (hyl : ys.length ≤ 1000000) (hF : ∀ w, Calls Try.prog 28 #[vl l j t] w (EncOk ys w)) (hxy : xs = ys) (hk : k = l) (hi : i = j) (hst : s = t) (en : Int) (hen : en ≠ 0) (hG : ∀ w, Sl w vb bs → Calls Try.prog 31 #[vb] w fun e w' => e = .returned (.tuple #[vl 0 0 emp, .int .i64 en]) ∧ Below w.heap.size w w') :
    Calls Try.prog 6 #[vl k i s, vl l j t, vb] w fun x w' => x = .returned (.bool true) ∧ Below w.heap.size w w' := by
  subst hk
  subst hi
  subst hst
  have HE := hid hE
  have HC := hid hC
  have HD := hid hD
  have HF := hid hF
  have HXY := hid (show decide (xs = ys) = true by simp [hxy])
  have HG := hid hG
  have hen2 : (en == 0) = false := by simpa using hen
  clear hE hC hD hF hxy hG
  have B0 := hid (Bst.mk' w k i s k i s hb.1)
  obtain ⟨⟨ao, cc, rfl, hcc, hx⟩, hsn⟩ := hb
  clear hcc hx hsn
  go_enter Try.func6, Try.ntmps6
  go_upto_region 9 with (first
    | (go_at_call 28
       (with_reducible show Calls _ _ _ ((w.alloc _).alloc _) _)
       refine (HE.out _).mono ?_
       rintro e w1 ⟨gX, rfl, hoX, -, hb⟩
       have B1 := hid (B0.out.below hb)
       have X1 := hid hoX
       obtain ⟨c0, c1, c2, -⟩ := vfacts B1.out.hv
       obtain ⟨d0, d1, d2, -⟩ := vfacts B1.out.hw
       clear hb hoX)
    | (go_at_call 10
       (with_reducible show Calls _ _ _ w1 _)
       refine (HC.out _).mono ?_
       rintro e w2 ⟨rfl, hb⟩
       have B2 := hid (B1.out.below hb)
       have X2 := hid (blk_of hb X1.out (lt_of X1.out))
       obtain ⟨c0, c1, c2, -⟩ := vfacts B2.out.hv
       obtain ⟨d0, d1, d2, -⟩ := vfacts B2.out.hw
       clear hb)
    | (go_at_call 31
       (with_reducible show Calls _ _ _ w2 _)
       refine (HD.out _ _ (sl_of_owns ((show Own w2 gX xs from X2.out).owns (Nat.zero_le _) (by unfold maxLen; omega)))).mono ?_
       rintro e w3 ⟨rfl, hb⟩
       have B3 := hid (B2.out.below hb)
       have X3 := hid (blk_of hb X2.out (lt_of X2.out))
       have B3a := hid (B3.out.below (below1 w3 (vo k i s)))
       have n3 : w.heap.size < w3.heap.size := lt_of B3.out.hv
       have n3b : w.heap.size + 1 < w3.heap.size := lt_of B3.out.hw
       obtain ⟨c0, c1, c2, -⟩ := vfacts B3.out.hv
       obtain ⟨d0, d1, d2, -⟩ := vfacts B3.out.hw
       clear hb)
    | (go_at_call 28
       (with_reducible show Calls _ _ _ (w3.alloc _) _)
       refine (HF.out _).mono ?_
       rintro e w4 ⟨gY, rfl, hoY, -, hb⟩
       have B4 := hid (B3a.out.below hb)
       have X4 := hid (And.intro (blk_of hb ((Below.heap_alloc w3 (vo k i s) _ (lt_of X3.out)).trans X3.out) (by have := lt_of X3.out; simp; omega)) hoY)
       obtain ⟨p0, p1, p2, -⟩ := vfacts (blk_of hb (heap_alloc_new w3 (vo k i s)) (by simp))
       obtain ⟨c0, c1, c2, -⟩ := vfacts B4.out.hv
       obtain ⟨d0, d1, d2, -⟩ := vfacts B4.out.hw
       clear hb hoY))
  go_region_held (fun w' => w'.cell? ⟨w3.heap.size, 0, none⟩ = some (.int .i64 k) ∧ w'.cell? ⟨w3.heap.size, 1, none⟩ = some (.int .i64 i) ∧ w'.cell? ⟨w3.heap.size, 2, none⟩ = some (.string s) ∧ w'.cell? ⟨w.heap.size, 0, none⟩ = some (.int .i64 k) ∧ w'.cell? ⟨w.heap.size, 1, none⟩ = some (.int .i64 i) ∧ w'.cell? ⟨w.heap.size, 2, none⟩ = some (.string s) ∧ w'.cell? ⟨w.heap.size + 1, 0, none⟩ = some (.int .i64 k) ∧ w'.cell? ⟨w.heap.size + 1, 1, none⟩ = some (.int .i64 i) ∧ w'.cell? ⟨w.heap.size + 1, 2, none⟩ = some (.string s)) (go_keep) (first
    | (go_at_call 30
       refine (bytes_any _ _ xs ys w4.drew (sl_of_owns ((show Own w4.drew gX xs from X4.out.1).owns (Nat.zero_le _) (by unfold maxLen; omega))) (sl_of_owns ((show Own w4.drew gY ys from X4.out.2).owns (Nat.zero_le _) (by unfold maxLen; omega))) (by omega)).mono ?_
       rintro e w5 ⟨hdn, rfl⟩
       rw [HXY.out]
       have hbd : Below w4.heap.size w4 w5 := ⟨(dn_below hdn).os, (dn_below hdn).tape, (dn_below hdn).output, (dn_below hdn).size, (dn_below hdn).block⟩
       have B5 := hid (B4.out.below hbd)
       have p0 := (hbd.cell (World.block_lt_of_cell? _ _ p0)).trans p0
       have p1 := (hbd.cell (World.block_lt_of_cell? _ _ p1)).trans p1
       have p2 := (hbd.cell (World.block_lt_of_cell? _ _ p2)).trans p2
       obtain ⟨c0, c1, c2, -⟩ := vfacts B5.out.hv
       obtain ⟨d0, d1, d2, -⟩ := vfacts B5.out.hw
       clear hdn hbd))
  go_wp2_with (first
    | (go_at_call 31
       (with_reducible show Calls _ _ _ w5 _)
       refine (HG.out _ B5.out.sb).mono ?_
       rintro e w6 ⟨rfl, hb⟩
       have B6 := hid ((B5.out.below hb).below (below1 w6 (vo 0 0 emp)))
       clear hb)
    | (go_at_call 9
       (with_reducible show Calls _ _ _ (w6.alloc _) _)
       refine (known_any _).mono ?_
       rintro e w7 ⟨rfl, hb⟩
       have BF := hid (below_on B6.out.hb hb)
       clear hb))
  go_ret
  exact ⟨rfl, BF.out⟩

set_option maxRecDepth 100000 in
set_option maxHeartbeats 6400000 in
theorem back_eq_ok (k i : Int) (s : ByteArray) (l j : Int) (t : ByteArray) (vb : Value) (bs : List Int) (w : World) (hb : Sn w vb bs) (hl : (bs.length : Int) ≤ 100000) (hs : (s.size : Int) ≤ 100000) (ht : (t.size : Int) ≤ 100000) (xs : List Int) (hxl : xs.length ≤ 1000000) (hE : ∀ w, Calls Try.prog 28 #[vl k i s] w (EncOk xs w)) (hC : ∀ w, Calls Try.prog 10 #[vl k i s] w fun x w' => x = .returned (.int .i64 0) ∧ Below w.heap.size w w') (hD : ∀ v w, Sl w v xs → Calls Try.prog 31 #[v] w fun e w' => e = .returned (.tuple #[vl k i s, .int .i64 0]) ∧ Below w.heap.size w w') (ys : List Int) (hyl : ys.length ≤ 1000000) (hF : ∀ w, Calls Try.prog 28 #[vl l j t] w (EncOk ys w)) (hxy : xs = ys) (hk : k = l) (hi : i = j) (hst : s = t) (zk zi : Int) (zs : ByteArray) (hG : ∀ w, Sl w vb bs → Calls Try.prog 31 #[vb] w fun e w' => e = .returned (.tuple #[vl zk zi zs, .int .i64 0]) ∧ Below w.heap.size w w') (hH : ∀ w, Calls Try.prog 28 #[vl zk zi zs] w (EncOk bs w)) (hI : ∀ w, Calls Try.prog 10 #[vl zk zi zs] w fun x w' => x = .returned (.int .i64 0) ∧ Below w.heap.size w w') :
    Calls Try.prog 6 #[vl k i s, vl l j t, vb] w fun x w' => x = .returned (.bool true) ∧ Below w.heap.size w w' := by
  subst hk
  subst hi
  subst hst
  have HE := hid hE
  have HC := hid hC
  have HD := hid hD
  have HF := hid hF
  have HXY := hid (show decide (xs = ys) = true by simp [hxy])
  have HG := hid hG
  have HH := hid hH
  have HI := hid hI
  clear hE hC hD hF hxy hG hH hI
  have B0 := hid (Bst.mk' w k i s k i s hb.1)
  obtain ⟨⟨ao, cc, rfl, hcc, hx⟩, hsn⟩ := hb
  clear hcc hx hsn
  go_enter Try.func6, Try.ntmps6
  go_upto_region 9 with (first
    | (go_at_call 28
       (with_reducible show Calls _ _ _ ((w.alloc _).alloc _) _)
       refine (HE.out _).mono ?_
       rintro e w1 ⟨gX, rfl, hoX, -, hb⟩
       have B1 := hid (B0.out.below hb)
       have X1 := hid hoX
       obtain ⟨c0, c1, c2, -⟩ := vfacts B1.out.hv
       obtain ⟨d0, d1, d2, -⟩ := vfacts B1.out.hw
       clear hb hoX)
    | (go_at_call 10
       (with_reducible show Calls _ _ _ w1 _)
       refine (HC.out _).mono ?_
       rintro e w2 ⟨rfl, hb⟩
       have B2 := hid (B1.out.below hb)
       have X2 := hid (blk_of hb X1.out (lt_of X1.out))
       obtain ⟨c0, c1, c2, -⟩ := vfacts B2.out.hv
       obtain ⟨d0, d1, d2, -⟩ := vfacts B2.out.hw
       clear hb)
    | (go_at_call 31
       (with_reducible show Calls _ _ _ w2 _)
       refine (HD.out _ _ (sl_of_owns ((show Own w2 gX xs from X2.out).owns (Nat.zero_le _) (by unfold maxLen; omega)))).mono ?_
       rintro e w3 ⟨rfl, hb⟩
       have B3 := hid (B2.out.below hb)
       have X3 := hid (blk_of hb X2.out (lt_of X2.out))
       have B3a := hid (B3.out.below (below1 w3 (vo k i s)))
       have n3 : w.heap.size < w3.heap.size := lt_of B3.out.hv
       have n3b : w.heap.size + 1 < w3.heap.size := lt_of B3.out.hw
       obtain ⟨c0, c1, c2, -⟩ := vfacts B3.out.hv
       obtain ⟨d0, d1, d2, -⟩ := vfacts B3.out.hw
       clear hb)
    | (go_at_call 28
       (with_reducible show Calls _ _ _ (w3.alloc _) _)
       refine (HF.out _).mono ?_
       rintro e w4 ⟨gY, rfl, hoY, -, hb⟩
       have B4 := hid (B3a.out.below hb)
       have X4 := hid (And.intro (blk_of hb ((Below.heap_alloc w3 (vo k i s) _ (lt_of X3.out)).trans X3.out) (by have := lt_of X3.out; simp; omega)) hoY)
       obtain ⟨p0, p1, p2, -⟩ := vfacts (blk_of hb (heap_alloc_new w3 (vo k i s)) (by simp))
       obtain ⟨c0, c1, c2, -⟩ := vfacts B4.out.hv
       obtain ⟨d0, d1, d2, -⟩ := vfacts B4.out.hw
       clear hb hoY))
  go_region_held (fun w' => w'.cell? ⟨w3.heap.size, 0, none⟩ = some (.int .i64 k) ∧ w'.cell? ⟨w3.heap.size, 1, none⟩ = some (.int .i64 i) ∧ w'.cell? ⟨w3.heap.size, 2, none⟩ = some (.string s) ∧ w'.cell? ⟨w.heap.size, 0, none⟩ = some (.int .i64 k) ∧ w'.cell? ⟨w.heap.size, 1, none⟩ = some (.int .i64 i) ∧ w'.cell? ⟨w.heap.size, 2, none⟩ = some (.string s) ∧ w'.cell? ⟨w.heap.size + 1, 0, none⟩ = some (.int .i64 k) ∧ w'.cell? ⟨w.heap.size + 1, 1, none⟩ = some (.int .i64 i) ∧ w'.cell? ⟨w.heap.size + 1, 2, none⟩ = some (.string s)) (go_keep) (first
    | (go_at_call 30
       refine (bytes_any _ _ xs ys w4.drew (sl_of_owns ((show Own w4.drew gX xs from X4.out.1).owns (Nat.zero_le _) (by unfold maxLen; omega))) (sl_of_owns ((show Own w4.drew gY ys from X4.out.2).owns (Nat.zero_le _) (by unfold maxLen; omega))) (by omega)).mono ?_
       rintro e w5 ⟨hdn, rfl⟩
       rw [HXY.out]
       have hbd : Below w4.heap.size w4 w5 := ⟨(dn_below hdn).os, (dn_below hdn).tape, (dn_below hdn).output, (dn_below hdn).size, (dn_below hdn).block⟩
       have B5 := hid (B4.out.below hbd)
       have p0 := (hbd.cell (World.block_lt_of_cell? _ _ p0)).trans p0
       have p1 := (hbd.cell (World.block_lt_of_cell? _ _ p1)).trans p1
       have p2 := (hbd.cell (World.block_lt_of_cell? _ _ p2)).trans p2
       obtain ⟨c0, c1, c2, -⟩ := vfacts B5.out.hv
       obtain ⟨d0, d1, d2, -⟩ := vfacts B5.out.hw
       clear hdn hbd))
  go_wp2_with (first
    | (go_at_call 31
       (with_reducible show Calls _ _ _ w5 _)
       refine (HG.out _ B5.out.sb).mono ?_
       rintro e w6 ⟨rfl, hb⟩
       have B6 := hid ((B5.out.below hb).below (below1 w6 (vo zk zi zs)))
       clear hb)
    | (go_at_call 28
       (with_reducible show Calls _ _ _ (w6.alloc _) _)
       refine (HH.out _).mono ?_
       rintro e w7 ⟨gZ, rfl, hoZ, -, hb⟩
       have B7 := hid (B6.out.below hb)
       have Z7 := hid (And.intro (blk_of hb (heap_alloc_new w6 (vo zk zi zs)) (by simp)) hoZ)
       obtain ⟨z0, z1, z2, -⟩ := vfacts Z7.out.1
       clear hb hoZ)
    | (go_at_call 30
       (with_reducible show Calls _ _ _ w7 _)
       refine (bytes_any _ _ bs bs _ (sl_of_owns ((show Own w7 gZ bs from Z7.out.2).owns (Nat.zero_le _) (by unfold maxLen; omega))) B7.out.sb (by omega)).mono ?_
       rintro e w8 ⟨hdn, rfl⟩
       rw [show decide (bs = bs) = true by simp]
       have B8 := hid (B7.out.below (dn_below hdn))
       have Z8 := hid (And.intro (blk_of (dn_below hdn) Z7.out.1 (lt_of Z7.out.1)) trivial)
       obtain ⟨z0, z1, z2, -⟩ := vfacts Z8.out.1
       clear hdn)
    | (go_at_call 10
       (with_reducible show Calls _ _ _ w8 _)
       refine (HI.out _).mono ?_
       rintro e w9 ⟨rfl, hb⟩
       have B9 := hid (B8.out.below hb)
       clear hb)
    | (go_at_call 9
       (with_reducible show Calls _ _ _ w9 _)
       refine (known_any _).mono ?_
       rintro e w99 ⟨rfl, hb⟩
       have BF := hid (below_on B9.out.hb hb)
       clear hb))
  go_ret
  exact ⟨rfl, BF.out⟩

set_option maxRecDepth 100000 in
set_option maxHeartbeats 6400000 in
theorem back_nek_err (k i : Int) (s : ByteArray) (l j : Int) (t : ByteArray) (vb : Value) (bs : List Int) (w : World) (hb : Sn w vb bs) (hl : (bs.length : Int) ≤ 100000) (hs : (s.size : Int) ≤ 100000) (ht : (t.size : Int) ≤ 100000) (xs : List Int) (hxl : xs.length ≤ 1000000) (hE : ∀ w, Calls Try.prog 28 #[vl k i s] w (EncOk xs w)) (hC : ∀ w, Calls Try.prog 10 #[vl k i s] w fun x w' => x = .returned (.int .i64 0) ∧ Below w.heap.size w w') (hD : ∀ v w, Sl w v xs → Calls Try.prog 31 #[v] w fun e w' => e = .returned (.tuple #[vl k i s, .int .i64 0]) ∧ Below w.heap.size w w') (ys : List Int) (hyl : ys.length ≤ 1000000) (hF : ∀ w, Calls Try.prog 28 #[vl l j t] w (EncOk ys w)) (hxy : xs ≠ ys) (hk : (k == l) = false) (en : Int) (hen : en ≠ 0) (hG : ∀ w, Sl w vb bs → Calls Try.prog 31 #[vb] w fun e w' => e = .returned (.tuple #[vl 0 0 emp, .int .i64 en]) ∧ Below w.heap.size w w') :
    Calls Try.prog 6 #[vl k i s, vl l j t, vb] w fun x w' => x = .returned (.bool true) ∧ Below w.heap.size w w' := by
  have HE := hid hE
  have HC := hid hC
  have HD := hid hD
  have HF := hid hF
  have HXY := hid (show decide (xs = ys) = false by simp [hxy])
  have HG := hid hG
  have hen2 : (en == 0) = false := by simpa using hen
  clear hE hC hD hF hxy hG
  have B0 := hid (Bst.mk' w k i s l j t hb.1)
  obtain ⟨⟨ao, cc, rfl, hcc, hx⟩, hsn⟩ := hb
  clear hcc hx hsn
  go_enter Try.func6, Try.ntmps6
  go_upto_region 9 with (first
    | (go_at_call 28
       (with_reducible show Calls _ _ _ ((w.alloc _).alloc _) _)
       refine (HE.out _).mono ?_
       rintro e w1 ⟨gX, rfl, hoX, -, hb⟩
       have B1 := hid (B0.out.below hb)
       have X1 := hid hoX
       obtain ⟨c0, c1, c2, -⟩ := vfacts B1.out.hv
       obtain ⟨d0, d1, d2, -⟩ := vfacts B1.out.hw
       clear hb hoX)
    | (go_at_call 10
       (with_reducible show Calls _ _ _ w1 _)
       refine (HC.out _).mono ?_
       rintro e w2 ⟨rfl, hb⟩
       have B2 := hid (B1.out.below hb)
       have X2 := hid (blk_of hb X1.out (lt_of X1.out))
       obtain ⟨c0, c1, c2, -⟩ := vfacts B2.out.hv
       obtain ⟨d0, d1, d2, -⟩ := vfacts B2.out.hw
       clear hb)
    | (go_at_call 31
       (with_reducible show Calls _ _ _ w2 _)
       refine (HD.out _ _ (sl_of_owns ((show Own w2 gX xs from X2.out).owns (Nat.zero_le _) (by unfold maxLen; omega)))).mono ?_
       rintro e w3 ⟨rfl, hb⟩
       have B3 := hid (B2.out.below hb)
       have X3 := hid (blk_of hb X2.out (lt_of X2.out))
       have B3a := hid (B3.out.below (below1 w3 (vo k i s)))
       have n3 : w.heap.size < w3.heap.size := lt_of B3.out.hv
       have n3b : w.heap.size + 1 < w3.heap.size := lt_of B3.out.hw
       obtain ⟨c0, c1, c2, -⟩ := vfacts B3.out.hv
       obtain ⟨d0, d1, d2, -⟩ := vfacts B3.out.hw
       clear hb)
    | (go_at_call 28
       (with_reducible show Calls _ _ _ (w3.alloc _) _)
       refine (HF.out _).mono ?_
       rintro e w4 ⟨gY, rfl, hoY, -, hb⟩
       have B4 := hid (B3a.out.below hb)
       have X4 := hid (And.intro (blk_of hb ((Below.heap_alloc w3 (vo k i s) _ (lt_of X3.out)).trans X3.out) (by have := lt_of X3.out; simp; omega)) hoY)
       obtain ⟨p0, p1, p2, -⟩ := vfacts (blk_of hb (heap_alloc_new w3 (vo k i s)) (by simp))
       obtain ⟨c0, c1, c2, -⟩ := vfacts B4.out.hv
       obtain ⟨d0, d1, d2, -⟩ := vfacts B4.out.hw
       clear hb hoY))
  go_region_held (fun w' => w'.cell? ⟨w3.heap.size, 0, none⟩ = some (.int .i64 k) ∧ w'.cell? ⟨w3.heap.size, 1, none⟩ = some (.int .i64 i) ∧ w'.cell? ⟨w3.heap.size, 2, none⟩ = some (.string s) ∧ w'.cell? ⟨w.heap.size, 0, none⟩ = some (.int .i64 k) ∧ w'.cell? ⟨w.heap.size, 1, none⟩ = some (.int .i64 i) ∧ w'.cell? ⟨w.heap.size, 2, none⟩ = some (.string s) ∧ w'.cell? ⟨w.heap.size + 1, 0, none⟩ = some (.int .i64 l) ∧ w'.cell? ⟨w.heap.size + 1, 1, none⟩ = some (.int .i64 j) ∧ w'.cell? ⟨w.heap.size + 1, 2, none⟩ = some (.string t)) (go_keep) (first
    | (go_at_call 30
       refine (bytes_any _ _ xs ys w4.drew (sl_of_owns ((show Own w4.drew gX xs from X4.out.1).owns (Nat.zero_le _) (by unfold maxLen; omega))) (sl_of_owns ((show Own w4.drew gY ys from X4.out.2).owns (Nat.zero_le _) (by unfold maxLen; omega))) (by omega)).mono ?_
       rintro e w5 ⟨hdn, rfl⟩
       rw [HXY.out]
       have hbd : Below w4.heap.size w4 w5 := ⟨(dn_below hdn).os, (dn_below hdn).tape, (dn_below hdn).output, (dn_below hdn).size, (dn_below hdn).block⟩
       have B5 := hid (B4.out.below hbd)
       have p0 := (hbd.cell (World.block_lt_of_cell? _ _ p0)).trans p0
       have p1 := (hbd.cell (World.block_lt_of_cell? _ _ p1)).trans p1
       have p2 := (hbd.cell (World.block_lt_of_cell? _ _ p2)).trans p2
       obtain ⟨c0, c1, c2, -⟩ := vfacts B5.out.hv
       obtain ⟨d0, d1, d2, -⟩ := vfacts B5.out.hw
       clear hdn hbd))
  go_wp2_with (first
    | (go_at_call 31
       (with_reducible show Calls _ _ _ w5 _)
       refine (HG.out _ B5.out.sb).mono ?_
       rintro e w6 ⟨rfl, hb⟩
       have B6 := hid ((B5.out.below hb).below (below1 w6 (vo 0 0 emp)))
       clear hb)
    | (go_at_call 9
       (with_reducible show Calls _ _ _ (w6.alloc _) _)
       refine (known_any _).mono ?_
       rintro e w7 ⟨rfl, hb⟩
       have BF := hid (below_on B6.out.hb hb)
       clear hb))
  go_ret
  exact ⟨rfl, BF.out⟩

set_option maxRecDepth 100000 in
set_option maxHeartbeats 6400000 in
theorem back_nek_ok (k i : Int) (s : ByteArray) (l j : Int) (t : ByteArray) (vb : Value) (bs : List Int) (w : World) (hb : Sn w vb bs) (hl : (bs.length : Int) ≤ 100000) (hs : (s.size : Int) ≤ 100000) (ht : (t.size : Int) ≤ 100000) (xs : List Int) (hxl : xs.length ≤ 1000000) (hE : ∀ w, Calls Try.prog 28 #[vl k i s] w (EncOk xs w)) (hC : ∀ w, Calls Try.prog 10 #[vl k i s] w fun x w' => x = .returned (.int .i64 0) ∧ Below w.heap.size w w') (hD : ∀ v w, Sl w v xs → Calls Try.prog 31 #[v] w fun e w' => e = .returned (.tuple #[vl k i s, .int .i64 0]) ∧ Below w.heap.size w w') (ys : List Int) (hyl : ys.length ≤ 1000000) (hF : ∀ w, Calls Try.prog 28 #[vl l j t] w (EncOk ys w)) (hxy : xs ≠ ys) (hk : (k == l) = false) (zk zi : Int) (zs : ByteArray) (hG : ∀ w, Sl w vb bs → Calls Try.prog 31 #[vb] w fun e w' => e = .returned (.tuple #[vl zk zi zs, .int .i64 0]) ∧ Below w.heap.size w w') (hH : ∀ w, Calls Try.prog 28 #[vl zk zi zs] w (EncOk bs w)) (hI : ∀ w, Calls Try.prog 10 #[vl zk zi zs] w fun x w' => x = .returned (.int .i64 0) ∧ Below w.heap.size w w') :
    Calls Try.prog 6 #[vl k i s, vl l j t, vb] w fun x w' => x = .returned (.bool true) ∧ Below w.heap.size w w' := by
  have HE := hid hE
  have HC := hid hC
  have HD := hid hD
  have HF := hid hF
  have HXY := hid (show decide (xs = ys) = false by simp [hxy])
  have HG := hid hG
  have HH := hid hH
  have HI := hid hI
  clear hE hC hD hF hxy hG hH hI
  have B0 := hid (Bst.mk' w k i s l j t hb.1)
  obtain ⟨⟨ao, cc, rfl, hcc, hx⟩, hsn⟩ := hb
  clear hcc hx hsn
  go_enter Try.func6, Try.ntmps6
  go_upto_region 9 with (first
    | (go_at_call 28
       (with_reducible show Calls _ _ _ ((w.alloc _).alloc _) _)
       refine (HE.out _).mono ?_
       rintro e w1 ⟨gX, rfl, hoX, -, hb⟩
       have B1 := hid (B0.out.below hb)
       have X1 := hid hoX
       obtain ⟨c0, c1, c2, -⟩ := vfacts B1.out.hv
       obtain ⟨d0, d1, d2, -⟩ := vfacts B1.out.hw
       clear hb hoX)
    | (go_at_call 10
       (with_reducible show Calls _ _ _ w1 _)
       refine (HC.out _).mono ?_
       rintro e w2 ⟨rfl, hb⟩
       have B2 := hid (B1.out.below hb)
       have X2 := hid (blk_of hb X1.out (lt_of X1.out))
       obtain ⟨c0, c1, c2, -⟩ := vfacts B2.out.hv
       obtain ⟨d0, d1, d2, -⟩ := vfacts B2.out.hw
       clear hb)
    | (go_at_call 31
       (with_reducible show Calls _ _ _ w2 _)
       refine (HD.out _ _ (sl_of_owns ((show Own w2 gX xs from X2.out).owns (Nat.zero_le _) (by unfold maxLen; omega)))).mono ?_
       rintro e w3 ⟨rfl, hb⟩
       have B3 := hid (B2.out.below hb)
       have X3 := hid (blk_of hb X2.out (lt_of X2.out))
       have B3a := hid (B3.out.below (below1 w3 (vo k i s)))
       have n3 : w.heap.size < w3.heap.size := lt_of B3.out.hv
       have n3b : w.heap.size + 1 < w3.heap.size := lt_of B3.out.hw
       obtain ⟨c0, c1, c2, -⟩ := vfacts B3.out.hv
       obtain ⟨d0, d1, d2, -⟩ := vfacts B3.out.hw
       clear hb)
    | (go_at_call 28
       (with_reducible show Calls _ _ _ (w3.alloc _) _)
       refine (HF.out _).mono ?_
       rintro e w4 ⟨gY, rfl, hoY, -, hb⟩
       have B4 := hid (B3a.out.below hb)
       have X4 := hid (And.intro (blk_of hb ((Below.heap_alloc w3 (vo k i s) _ (lt_of X3.out)).trans X3.out) (by have := lt_of X3.out; simp; omega)) hoY)
       obtain ⟨p0, p1, p2, -⟩ := vfacts (blk_of hb (heap_alloc_new w3 (vo k i s)) (by simp))
       obtain ⟨c0, c1, c2, -⟩ := vfacts B4.out.hv
       obtain ⟨d0, d1, d2, -⟩ := vfacts B4.out.hw
       clear hb hoY))
  go_region_held (fun w' => w'.cell? ⟨w3.heap.size, 0, none⟩ = some (.int .i64 k) ∧ w'.cell? ⟨w3.heap.size, 1, none⟩ = some (.int .i64 i) ∧ w'.cell? ⟨w3.heap.size, 2, none⟩ = some (.string s) ∧ w'.cell? ⟨w.heap.size, 0, none⟩ = some (.int .i64 k) ∧ w'.cell? ⟨w.heap.size, 1, none⟩ = some (.int .i64 i) ∧ w'.cell? ⟨w.heap.size, 2, none⟩ = some (.string s) ∧ w'.cell? ⟨w.heap.size + 1, 0, none⟩ = some (.int .i64 l) ∧ w'.cell? ⟨w.heap.size + 1, 1, none⟩ = some (.int .i64 j) ∧ w'.cell? ⟨w.heap.size + 1, 2, none⟩ = some (.string t)) (go_keep) (first
    | (go_at_call 30
       refine (bytes_any _ _ xs ys w4.drew (sl_of_owns ((show Own w4.drew gX xs from X4.out.1).owns (Nat.zero_le _) (by unfold maxLen; omega))) (sl_of_owns ((show Own w4.drew gY ys from X4.out.2).owns (Nat.zero_le _) (by unfold maxLen; omega))) (by omega)).mono ?_
       rintro e w5 ⟨hdn, rfl⟩
       rw [HXY.out]
       have hbd : Below w4.heap.size w4 w5 := ⟨(dn_below hdn).os, (dn_below hdn).tape, (dn_below hdn).output, (dn_below hdn).size, (dn_below hdn).block⟩
       have B5 := hid (B4.out.below hbd)
       have p0 := (hbd.cell (World.block_lt_of_cell? _ _ p0)).trans p0
       have p1 := (hbd.cell (World.block_lt_of_cell? _ _ p1)).trans p1
       have p2 := (hbd.cell (World.block_lt_of_cell? _ _ p2)).trans p2
       obtain ⟨c0, c1, c2, -⟩ := vfacts B5.out.hv
       obtain ⟨d0, d1, d2, -⟩ := vfacts B5.out.hw
       clear hdn hbd))
  go_wp2_with (first
    | (go_at_call 31
       (with_reducible show Calls _ _ _ w5 _)
       refine (HG.out _ B5.out.sb).mono ?_
       rintro e w6 ⟨rfl, hb⟩
       have B6 := hid ((B5.out.below hb).below (below1 w6 (vo zk zi zs)))
       clear hb)
    | (go_at_call 28
       (with_reducible show Calls _ _ _ (w6.alloc _) _)
       refine (HH.out _).mono ?_
       rintro e w7 ⟨gZ, rfl, hoZ, -, hb⟩
       have B7 := hid (B6.out.below hb)
       have Z7 := hid (And.intro (blk_of hb (heap_alloc_new w6 (vo zk zi zs)) (by simp)) hoZ)
       obtain ⟨z0, z1, z2, -⟩ := vfacts Z7.out.1
       clear hb hoZ)
    | (go_at_call 30
       (with_reducible show Calls _ _ _ w7 _)
       refine (bytes_any _ _ bs bs _ (sl_of_owns ((show Own w7 gZ bs from Z7.out.2).owns (Nat.zero_le _) (by unfold maxLen; omega))) B7.out.sb (by omega)).mono ?_
       rintro e w8 ⟨hdn, rfl⟩
       rw [show decide (bs = bs) = true by simp]
       have B8 := hid (B7.out.below (dn_below hdn))
       have Z8 := hid (And.intro (blk_of (dn_below hdn) Z7.out.1 (lt_of Z7.out.1)) trivial)
       obtain ⟨z0, z1, z2, -⟩ := vfacts Z8.out.1
       clear hdn)
    | (go_at_call 10
       (with_reducible show Calls _ _ _ w8 _)
       refine (HI.out _).mono ?_
       rintro e w9 ⟨rfl, hb⟩
       have B9 := hid (B8.out.below hb)
       clear hb)
    | (go_at_call 9
       (with_reducible show Calls _ _ _ w9 _)
       refine (known_any _).mono ?_
       rintro e w99 ⟨rfl, hb⟩
       have BF := hid (below_on B9.out.hb hb)
       clear hb))
  go_ret
  exact ⟨rfl, BF.out⟩

end Go.Proofs.Ytiammlngbejhkaa
