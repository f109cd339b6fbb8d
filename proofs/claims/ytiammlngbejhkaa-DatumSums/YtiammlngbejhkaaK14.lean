import Derived.Test.YtiammlngbejhkaaK06
namespace Go.Proofs.Ytiammlngbejhkaa
open Go.RowKit

set_option maxRecDepth 100000 in
set_option maxHeartbeats 6400000 in
theorem sums_ok_rg_e1 (x y ka ia : Int) (sa : ByteArray) (kb ib : Int) (sb : ByteArray) (kc ic : Int) (sc : ByteArray) (w : World) (l1 : (sa.size : Int) ≤ 100000) (l2 : (sb.size : Int) ≤ 100000) (l3 : (sc.size : Int) ≤ 100000) (S : Int) (k1 i1 : Int) (s1 : ByteArray) (k2 i2 : Int) (s2 : ByteArray) (e1 e2 : Int)
    (hS1 : ∀ W, Calls Try.prog 18 #[vl 1 x emp, vl 1 y emp] W fun z w' => z = .returned (.tuple #[vl 1 S emp, .int .i64 0]) ∧ Below W.heap.size W w')
    (hS2 : ∀ W, Calls Try.prog 18 #[vl 1 y emp, vl 1 x emp] W fun z w' => z = .returned (.tuple #[vl 1 S emp, .int .i64 0]) ∧ Below W.heap.size W w')
    (hP1 : ∀ W, Calls Try.prog 22 #[vl 1 x emp, vl 1 y emp] W fun z w' => z = .returned (.tuple #[vl 0 0 emp, .int .i64 15]) ∧ Below W.heap.size W w')
    (hP2 : ∀ W, Calls Try.prog 22 #[vl 1 y emp, vl 1 x emp] W fun z w' => z = .returned (.tuple #[vl 0 0 emp, .int .i64 15]) ∧ Below W.heap.size W w')
    (hD : ∀ W, Calls Try.prog 20 #[vl 1 S emp, vl 1 y emp] W fun z w' => z = .returned (.tuple #[vl 1 x emp, .int .i64 0]) ∧ Below W.heap.size W w')
    (hw : IntKind.i64.wrap (S - y) = x)
    (hJ1 : ∀ W, Below w.heap.size w W → Calls Try.prog 24 #[vl ka ia sa, vl kb ib sb] W fun z w' => z = .returned (.tuple #[vl k1 i1 s1, .int .i64 e1]) ∧ Below W.heap.size W w')
    (hJ2 : ∀ W, Below w.heap.size w W → Calls Try.prog 24 #[vl kb ib sb, vl kc ic sc] W fun z w' => z = .returned (.tuple #[vl k2 i2 s2, .int .i64 e2]) ∧ Below W.heap.size W w')
    (he1 : (e1 == 0) = false) :
    Calls Try.prog 8 #[.int .i64 x, .int .i64 y, vl ka ia sa, vl kb ib sb, vl kc ic sc] w fun z w' => z = .returned (.bool true) ∧ Below w.heap.size w w' := by
  have HS1 := hid hS1
  have HS2 := hid hS2
  have HP1 := hid hP1
  have HP2 := hid hP2
  have HD := hid hD
  have HJ1 := hid hJ1
  have HJ2 := hid hJ2
  clear hS1 hS2 hP1 hP2 hD hJ1 hJ2
  have B0 := hid (Ost.mk' w (vo ka ia sa) (vo kb ib sb) (vo kc ic sc))
  go_enter Try.func8, Try.ntmps8
  go_upto_region 10 with (first
    | (go_at_call 33
       (with_reducible show Calls _ _ _ (((w.alloc _).alloc _).alloc _) _)
       refine (number_any x _).mono ?_
       rintro e w1 ⟨rfl, hb⟩
       have A1 := hid (blk_of hb B0.out.ha (lt_of B0.out.ha))
       have B1 := hid (blk_of hb B0.out.hb (lt_of B0.out.hb))
       have C1 := hid (blk_of hb B0.out.hc (lt_of B0.out.hc))
       have E1 := hid (below_on B0.out.bel hb)
       clear hb
       obtain ⟨ca0, ca1, ca2, -⟩ := vf A1
       obtain ⟨cb0, cb1, cb2, -⟩ := vf B1
       obtain ⟨cc0, cc1, cc2, -⟩ := vf C1)
    | (go_at_call 33
       (with_reducible show Calls _ _ _ w1 _)
       refine (number_any y _).mono ?_
       rintro e w2 ⟨rfl, hb⟩
       have A2 := kp hb A1
       have B2 := kp hb B1
       have C2 := kp hb C1
       have E2 := kbl E1 hb
       clear hb
       clear ca0 ca1 ca2 cb0 cb1 cb2 cc0 cc1 cc2
       obtain ⟨ca0, ca1, ca2, -⟩ := vf A2
       obtain ⟨cb0, cb1, cb2, -⟩ := vf B2
       obtain ⟨cc0, cc1, cc2, -⟩ := vf C2)
    | (go_at_call 18
       (with_reducible show Calls _ _ _ w2 _)
       refine (HS1.out _).mono ?_
       rintro e w3 ⟨rfl, hb⟩
       have A3 := kp hb A2
       have B3 := kp hb B2
       have C3 := kp hb C2
       have E3 := kbl E2 hb
       clear hb
       clear ca0 ca1 ca2 cb0 cb1 cb2 cc0 cc1 cc2
       obtain ⟨ca0, ca1, ca2, -⟩ := vf A3
       obtain ⟨cb0, cb1, cb2, -⟩ := vf B3
       obtain ⟨cc0, cc1, cc2, -⟩ := vf C3
       obtain ⟨da0, da1, da2, -⟩ := vk (vo 1 S emp) A3
       obtain ⟨db0, db1, db2, -⟩ := vk (vo 1 S emp) B3
       obtain ⟨dc0, dc1, dc2, -⟩ := vk (vo 1 S emp) C3
       obtain ⟨dz0, dz1, dz2, -⟩ := vfacts (heap_alloc_new w3 (vo 1 S emp)))
    | (go_at_call 33
       (with_reducible show Calls _ _ _ (w3.alloc _) _)
       refine (number_any y _).mono ?_
       rintro e w4 ⟨rfl, hb⟩
       have Ns := hid (blk_of hb (heap_alloc_new w3 (vo 1 S emp)) (by simp))
       replace hb := below_on (below1 w3 (vo 1 S emp)) hb
       have A4 := kp hb A3
       have B4 := kp hb B3
       have C4 := kp hb C3
       have E4 := kbl E3 hb
       clear hb
       have S4 := Ns
       clear ca0 ca1 ca2 cb0 cb1 cb2 cc0 cc1 cc2 da0 da1 da2 db0 db1 db2 dc0 dc1 dc2 dz0 dz1 dz2
       obtain ⟨ca0, ca1, ca2, -⟩ := vf A4
       obtain ⟨cb0, cb1, cb2, -⟩ := vf B4
       obtain ⟨cc0, cc1, cc2, -⟩ := vf C4
       obtain ⟨cs0, cs1, cs2, -⟩ := vf S4)
    | (go_at_call 33
       (with_reducible show Calls _ _ _ w4 _)
       refine (number_any x _).mono ?_
       rintro e w5 ⟨rfl, hb⟩
       have A5 := kp hb A4
       have B5 := kp hb B4
       have C5 := kp hb C4
       have S5 := kp hb S4
       have E5 := kbl E4 hb
       clear hb
       clear ca0 ca1 ca2 cb0 cb1 cb2 cc0 cc1 cc2 cs0 cs1 cs2
       obtain ⟨ca0, ca1, ca2, -⟩ := vf A5
       obtain ⟨cb0, cb1, cb2, -⟩ := vf B5
       obtain ⟨cc0, cc1, cc2, -⟩ := vf C5
       obtain ⟨cs0, cs1, cs2, -⟩ := vf S5)
    | (go_at_call 18
       (with_reducible show Calls _ _ _ w5 _)
       refine (HS2.out _).mono ?_
       rintro e w6 ⟨rfl, hb⟩
       have A6 := kp hb A5
       have B6 := kp hb B5
       have C6 := kp hb C5
       have S6 := kp hb S5
       have E6 := kbl E5 hb
       clear hb
       clear ca0 ca1 ca2 cb0 cb1 cb2 cc0 cc1 cc2 cs0 cs1 cs2
       obtain ⟨ca0, ca1, ca2, -⟩ := vf A6
       obtain ⟨cb0, cb1, cb2, -⟩ := vf B6
       obtain ⟨cc0, cc1, cc2, -⟩ := vf C6
       obtain ⟨cs0, cs1, cs2, -⟩ := vf S6
       obtain ⟨da0, da1, da2, -⟩ := vk (vo 1 S emp) A6
       obtain ⟨db0, db1, db2, -⟩ := vk (vo 1 S emp) B6
       obtain ⟨dc0, dc1, dc2, -⟩ := vk (vo 1 S emp) C6
       obtain ⟨ds0, ds1, ds2, -⟩ := vk (vo 1 S emp) S6
       obtain ⟨dz0, dz1, dz2, -⟩ := vfacts (heap_alloc_new w6 (vo 1 S emp)))
    | (go_at_call 33
       (with_reducible show Calls _ _ _ (w6.alloc _) _)
       refine (number_any x _).mono ?_
       rintro e w7 ⟨rfl, hb⟩
       have Nt := hid (blk_of hb (heap_alloc_new w6 (vo 1 S emp)) (by simp))
       replace hb := below_on (below1 w6 (vo 1 S emp)) hb
       have A7 := kp hb A6
       have B7 := kp hb B6
       have C7 := kp hb C6
       have S7 := kp hb S6
       have E7 := kbl E6 hb
       clear hb
       have T7 := Nt
       clear ca0 ca1 ca2 cb0 cb1 cb2 cc0 cc1 cc2 cs0 cs1 cs2 da0 da1 da2 db0 db1 db2 dc0 dc1 dc2 ds0 ds1 ds2 dz0 dz1 dz2
       obtain ⟨ca0, ca1, ca2, -⟩ := vf A7
       obtain ⟨cb0, cb1, cb2, -⟩ := vf B7
       obtain ⟨cc0, cc1, cc2, -⟩ := vf C7
       obtain ⟨cs0, cs1, cs2, -⟩ := vf S7
       obtain ⟨ct0, ct1, ct2, -⟩ := vf T7)
    | (go_at_call 33
       (with_reducible show Calls _ _ _ w7 _)
       refine (number_any y _).mono ?_
       rintro e w8 ⟨rfl, hb⟩
       have A8 := kp hb A7
       have B8 := kp hb B7
       have C8 := kp hb C7
       have S8 := kp hb S7
       have T8 := kp hb T7
       have E8 := kbl E7 hb
       clear hb
       clear ca0 ca1 ca2 cb0 cb1 cb2 cc0 cc1 cc2 cs0 cs1 cs2 ct0 ct1 ct2
       obtain ⟨ca0, ca1, ca2, -⟩ := vf A8
       obtain ⟨cb0, cb1, cb2, -⟩ := vf B8
       obtain ⟨cc0, cc1, cc2, -⟩ := vf C8
       obtain ⟨cs0, cs1, cs2, -⟩ := vf S8
       obtain ⟨ct0, ct1, ct2, -⟩ := vf T8)
    | (go_at_call 22
       (with_reducible show Calls _ _ _ w8 _)
       refine (HP1.out _).mono ?_
       rintro e w9 ⟨rfl, hb⟩
       have A9 := kp hb A8
       have B9 := kp hb B8
       have C9 := kp hb C8
       have S9 := kp hb S8
       have T9 := kp hb T8
       have E9 := kbl E8 hb
       clear hb
       clear ca0 ca1 ca2 cb0 cb1 cb2 cc0 cc1 cc2 cs0 cs1 cs2 ct0 ct1 ct2
       obtain ⟨ca0, ca1, ca2, -⟩ := vf A9
       obtain ⟨cb0, cb1, cb2, -⟩ := vf B9
       obtain ⟨cc0, cc1, cc2, -⟩ := vf C9
       obtain ⟨cs0, cs1, cs2, -⟩ := vf S9
       obtain ⟨ct0, ct1, ct2, -⟩ := vf T9
       obtain ⟨da0, da1, da2, -⟩ := vk (vo 0 0 emp) A9
       obtain ⟨db0, db1, db2, -⟩ := vk (vo 0 0 emp) B9
       obtain ⟨dc0, dc1, dc2, -⟩ := vk (vo 0 0 emp) C9
       obtain ⟨ds0, ds1, ds2, -⟩ := vk (vo 0 0 emp) S9
       obtain ⟨dt0, dt1, dt2, -⟩ := vk (vo 0 0 emp) T9
       obtain ⟨dz0, dz1, dz2, -⟩ := vfacts (heap_alloc_new w9 (vo 0 0 emp)))
    | (go_at_call 33
       (with_reducible show Calls _ _ _ (w9.alloc _) _)
       refine (number_any y _).mono ?_
       rintro e w10 ⟨rfl, hb⟩
       have Np := hid (blk_of hb (heap_alloc_new w9 (vo 0 0 emp)) (by simp))
       replace hb := below_on (below1 w9 (vo 0 0 emp)) hb
       have A10 := kp hb A9
       have B10 := kp hb B9
       have C10 := kp hb C9
       have S10 := kp hb S9
       have T10 := kp hb T9
       have E10 := kbl E9 hb
       clear hb
       have P10 := Np
       clear ca0 ca1 ca2 cb0 cb1 cb2 cc0 cc1 cc2 cs0 cs1 cs2 ct0 ct1 ct2 da0 da1 da2 db0 db1 db2 dc0 dc1 dc2 ds0 ds1 ds2 dt0 dt1 dt2 dz0 dz1 dz2
       obtain ⟨ca0, ca1, ca2, -⟩ := vf A10
       obtain ⟨cb0, cb1, cb2, -⟩ := vf B10
       obtain ⟨cc0, cc1, cc2, -⟩ := vf C10
       obtain ⟨cs0, cs1, cs2, -⟩ := vf S10
       obtain ⟨ct0, ct1, ct2, -⟩ := vf T10
       obtain ⟨cp0, cp1, cp2, -⟩ := vf P10)
    | (go_at_call 33
       (with_reducible show Calls _ _ _ w10 _)
       refine (number_any x _).mono ?_
       rintro e w11 ⟨rfl, hb⟩
       have A11 := kp hb A10
       have B11 := kp hb B10
       have C11 := kp hb C10
       have S11 := kp hb S10
       have T11 := kp hb T10
       have P11 := kp hb P10
       have E11 := kbl E10 hb
       clear hb
       clear ca0 ca1 ca2 cb0 cb1 cb2 cc0 cc1 cc2 cs0 cs1 cs2 ct0 ct1 ct2 cp0 cp1 cp2
       obtain ⟨ca0, ca1, ca2, -⟩ := vf A11
       obtain ⟨cb0, cb1, cb2, -⟩ := vf B11
       obtain ⟨cc0, cc1, cc2, -⟩ := vf C11
       obtain ⟨cs0, cs1, cs2, -⟩ := vf S11
       obtain ⟨ct0, ct1, ct2, -⟩ := vf T11
       obtain ⟨cp0, cp1, cp2, -⟩ := vf P11)
    | (go_at_call 22
       (with_reducible show Calls _ _ _ w11 _)
       refine (HP2.out _).mono ?_
       rintro e w12 ⟨rfl, hb⟩
       have A12 := kp hb A11
       have B12 := kp hb B11
       have C12 := kp hb C11
       have S12 := kp hb S11
       have T12 := kp hb T11
       have P12 := kp hb P11
       have E12 := kbl E11 hb
       clear hb
       clear ca0 ca1 ca2 cb0 cb1 cb2 cc0 cc1 cc2 cs0 cs1 cs2 ct0 ct1 ct2 cp0 cp1 cp2
       obtain ⟨ca0, ca1, ca2, -⟩ := vf A12
       obtain ⟨cb0, cb1, cb2, -⟩ := vf B12
       obtain ⟨cc0, cc1, cc2, -⟩ := vf C12
       obtain ⟨cs0, cs1, cs2, -⟩ := vf S12
       obtain ⟨ct0, ct1, ct2, -⟩ := vf T12
       obtain ⟨cp0, cp1, cp2, -⟩ := vf P12
       obtain ⟨da0, da1, da2, -⟩ := vk (vo 0 0 emp) A12
       obtain ⟨db0, db1, db2, -⟩ := vk (vo 0 0 emp) B12
       obtain ⟨dc0, dc1, dc2, -⟩ := vk (vo 0 0 emp) C12
       obtain ⟨ds0, ds1, ds2, -⟩ := vk (vo 0 0 emp) S12
       obtain ⟨dt0, dt1, dt2, -⟩ := vk (vo 0 0 emp) T12
       obtain ⟨dp0, dp1, dp2, -⟩ := vk (vo 0 0 emp) P12
       obtain ⟨dz0, dz1, dz2, -⟩ := vfacts (heap_alloc_new w12 (vo 0 0 emp))))
  go_name_world w13 hV
  have hb : Below w12.heap.size w12 w13 := by rw [← hV]; exact below1 w12 _
  have Nq := hid (show w13.heap[w12.heap.size]? = some (vo 0 0 emp) by rw [← hV]; exact heap_alloc_new w12 _)
  have A13 := kp hb A12
  have B13 := kp hb B12
  have C13 := kp hb C12
  have S13 := kp hb S12
  have T13 := kp hb T12
  have P13 := kp hb P12
  have E13 := kbl E12 hb
  have Q13 := Nq
  clear hb hV
  clear ca0 ca1 ca2 cb0 cb1 cb2 cc0 cc1 cc2 cs0 cs1 cs2 ct0 ct1 ct2 cp0 cp1 cp2 da0 da1 da2 db0 db1 db2 dc0 dc1 dc2 ds0 ds1 ds2 dt0 dt1 dt2 dp0 dp1 dp2 dz0 dz1 dz2
  obtain ⟨ca0, ca1, ca2, -⟩ := vf A13
  obtain ⟨cb0, cb1, cb2, -⟩ := vf B13
  obtain ⟨cc0, cc1, cc2, -⟩ := vf C13
  obtain ⟨cs0, cs1, cs2, -⟩ := vf S13
  obtain ⟨ct0, ct1, ct2, -⟩ := vf T13
  obtain ⟨cp0, cp1, cp2, -⟩ := vf P13
  obtain ⟨cq0, cq1, cq2, -⟩ := vf Q13
  go_region_held (fun w' => w'.cell? ⟨w3.heap.size, 0, none⟩ = some (.int .i64 1) ∧ w'.cell? ⟨w3.heap.size, 1, none⟩ = some (.int .i64 S) ∧ w'.cell? ⟨w3.heap.size, 2, none⟩ = some (.string emp)) (go_keep) (first
    | (go_at_call 33
       refine (number_any y _).mono ?_
       rintro e w14 ⟨rfl, hb⟩
       have hb : Below w13.heap.size w13 w14 := ⟨hb.os, hb.tape, hb.output, hb.size, hb.block⟩
       have A14 := kp hb A13
       have B14 := kp hb B13
       have C14 := kp hb C13
       have S14 := kp hb S13
       have T14 := kp hb T13
       have P14 := kp hb P13
       have Q14 := kp hb Q13
       have E14 := kbl E13 hb
       clear hb
       clear ca0 ca1 ca2 cb0 cb1 cb2 cc0 cc1 cc2 cs0 cs1 cs2 ct0 ct1 ct2 cp0 cp1 cp2 cq0 cq1 cq2
       obtain ⟨ca0, ca1, ca2, -⟩ := vf A14
       obtain ⟨cb0, cb1, cb2, -⟩ := vf B14
       obtain ⟨cc0, cc1, cc2, -⟩ := vf C14
       obtain ⟨cs0, cs1, cs2, -⟩ := vf S14
       obtain ⟨ct0, ct1, ct2, -⟩ := vf T14
       obtain ⟨cp0, cp1, cp2, -⟩ := vf P14
       obtain ⟨cq0, cq1, cq2, -⟩ := vf Q14)
    | (go_at_call 33
       refine (number_any y _).mono ?_
       rintro e w14 ⟨rfl, hb⟩
       have hb : Below (w13.alloc (vo 0 0 emp)).heap.size (w13.alloc (vo 0 0 emp)) w14 := ⟨hb.os, hb.tape, hb.output, hb.size, hb.block⟩
       have Nd := hid (blk_of hb (heap_alloc_new w13 (vo 0 0 emp)) (by simp))
       replace hb := below_on (below1 w13 (vo 0 0 emp)) hb
       have A14 := kp hb A13
       have B14 := kp hb B13
       have C14 := kp hb C13
       have S14 := kp hb S13
       have T14 := kp hb T13
       have P14 := kp hb P13
       have Q14 := kp hb Q13
       have E14 := kbl E13 hb
       clear hb
       have D14 := Nd
       clear ca0 ca1 ca2 cb0 cb1 cb2 cc0 cc1 cc2 cs0 cs1 cs2 ct0 ct1 ct2 cp0 cp1 cp2 cq0 cq1 cq2
       obtain ⟨ca0, ca1, ca2, -⟩ := vf A14
       obtain ⟨cb0, cb1, cb2, -⟩ := vf B14
       obtain ⟨cc0, cc1, cc2, -⟩ := vf C14
       obtain ⟨cs0, cs1, cs2, -⟩ := vf S14
       obtain ⟨ct0, ct1, ct2, -⟩ := vf T14
       obtain ⟨cp0, cp1, cp2, -⟩ := vf P14
       obtain ⟨cq0, cq1, cq2, -⟩ := vf Q14
       obtain ⟨cd0, cd1, cd2, fd⟩ := vf D14)
    | (go_at_call 20
       refine (HD.out _).mono ?_
       rintro e w15 ⟨rfl, hb⟩
       have hb : Below w14.heap.size w14 w15 := ⟨hb.os, hb.tape, hb.output, hb.size, hb.block⟩
       have A15 := kp hb A14
       have B15 := kp hb B14
       have C15 := kp hb C14
       have S15 := kp hb S14
       have T15 := kp hb T14
       have P15 := kp hb P14
       have Q15 := kp hb Q14
       have D15 := kp hb D14
       have E15 := kbl E14 hb
       clear hb
       clear ca0 ca1 ca2 cb0 cb1 cb2 cc0 cc1 cc2 cs0 cs1 cs2 ct0 ct1 ct2 cp0 cp1 cp2 cq0 cq1 cq2 cd0 cd1 cd2
       obtain ⟨ca0, ca1, ca2, -⟩ := vf A15
       obtain ⟨cb0, cb1, cb2, -⟩ := vf B15
       obtain ⟨cc0, cc1, cc2, -⟩ := vf C15
       obtain ⟨cs0, cs1, cs2, -⟩ := vf S15
       obtain ⟨ct0, ct1, ct2, -⟩ := vf T15
       obtain ⟨cp0, cp1, cp2, -⟩ := vf P15
       obtain ⟨cq0, cq1, cq2, -⟩ := vf Q15
       obtain ⟨cd0, cd1, cd2, fd⟩ := vf D15
       have hne : w3.heap.size ≠ w13.heap.size := by have := lt_of S13.out; omega
       have hne2 := hne.symm)
    | (go_at_call 20
       refine (HD.out _).mono ?_
       rintro e w15 ⟨rfl, hb⟩
       have hb : Below w14.heap.size w14 w15 := ⟨hb.os, hb.tape, hb.output, hb.size, hb.block⟩
       have A15 := kp hb A14
       have B15 := kp hb B14
       have C15 := kp hb C14
       have S15 := kp hb S14
       have T15 := kp hb T14
       have P15 := kp hb P14
       have Q15 := kp hb Q14
       have E15 := kbl E14 hb
       clear hb
       clear ca0 ca1 ca2 cb0 cb1 cb2 cc0 cc1 cc2 cs0 cs1 cs2 ct0 ct1 ct2 cp0 cp1 cp2 cq0 cq1 cq2
       obtain ⟨ca0, ca1, ca2, -⟩ := vf A15
       obtain ⟨cb0, cb1, cb2, -⟩ := vf B15
       obtain ⟨cc0, cc1, cc2, -⟩ := vf C15
       obtain ⟨cs0, cs1, cs2, -⟩ := vf S15
       obtain ⟨ct0, ct1, ct2, -⟩ := vf T15
       obtain ⟨cp0, cp1, cp2, -⟩ := vf P15
       obtain ⟨cq0, cq1, cq2, -⟩ := vf Q15)
    | (go_at_call 20
       refine (HD.out _).mono ?_
       rintro e w15 ⟨rfl, hb⟩
       have hb : Below (w14.alloc (vo 0 0 emp)).heap.size (w14.alloc (vo 0 0 emp)) w15 := ⟨hb.os, hb.tape, hb.output, hb.size, hb.block⟩
       have Nd := hid (blk_of hb (heap_alloc_new w14 (vo 0 0 emp)) (by simp))
       replace hb := below_on (below1 w14 (vo 0 0 emp)) hb
       have A15 := kp hb A14
       have B15 := kp hb B14
       have C15 := kp hb C14
       have S15 := kp hb S14
       have T15 := kp hb T14
       have P15 := kp hb P14
       have Q15 := kp hb Q14
       have E15 := kbl E14 hb
       clear hb
       have D15 := Nd
       clear ca0 ca1 ca2 cb0 cb1 cb2 cc0 cc1 cc2 cs0 cs1 cs2 ct0 ct1 ct2 cp0 cp1 cp2 cq0 cq1 cq2
       obtain ⟨ca0, ca1, ca2, -⟩ := vf A15
       obtain ⟨cb0, cb1, cb2, -⟩ := vf B15
       obtain ⟨cc0, cc1, cc2, -⟩ := vf C15
       obtain ⟨cs0, cs1, cs2, -⟩ := vf S15
       obtain ⟨ct0, ct1, ct2, -⟩ := vf T15
       obtain ⟨cp0, cp1, cp2, -⟩ := vf P15
       obtain ⟨cq0, cq1, cq2, -⟩ := vf Q15
       obtain ⟨cd0, cd1, cd2, fd⟩ := vf D15
       have hne : w3.heap.size ≠ w14.heap.size := by have := lt_of S14.out; omega
       have hne2 := hne.symm))
  · as_aux_lemma =>
    go_wp2
    go_name_world w16 hV
    have hb : Below w15.heap.size w15 w16 := by rw [← hV]; exact below1 w15 _
    have Nd := hid (show w16.heap[w15.heap.size]? = some (vo 1 x emp) by rw [← hV]; exact heap_alloc_new w15 _)
    have A16 := kp hb A15
    have B16 := kp hb B15
    have C16 := kp hb C15
    have S16 := kp hb S15
    have T16 := kp hb T15
    have P16 := kp hb P15
    have Q16 := kp hb Q15
    have E16 := kbl E15 hb
    have D16 := Nd
    clear hb hV
    clear ca0 ca1 ca2 cb0 cb1 cb2 cc0 cc1 cc2 cs0 cs1 cs2 ct0 ct1 ct2 cp0 cp1 cp2 cq0 cq1 cq2
    obtain ⟨ca0, ca1, ca2, -⟩ := vf A16
    obtain ⟨cb0, cb1, cb2, -⟩ := vf B16
    obtain ⟨cc0, cc1, cc2, -⟩ := vf C16
    obtain ⟨cs0, cs1, cs2, -⟩ := vf S16
    obtain ⟨ct0, ct1, ct2, -⟩ := vf T16
    obtain ⟨cp0, cp1, cp2, -⟩ := vf P16
    obtain ⟨cq0, cq1, cq2, -⟩ := vf Q16
    obtain ⟨cd0, cd1, cd2, -⟩ := vf D16
    go_region_held (fun w' => w'.cell? ⟨w15.heap.size, 0, none⟩ = some (.int .i64 1) ∧ w'.cell? ⟨w15.heap.size, 1, none⟩ = some (.int .i64 x) ∧ w'.cell? ⟨w15.heap.size, 2, none⟩ = some (.string emp) ∧ w'.cell? ⟨w3.heap.size, 0, none⟩ = some (.int .i64 1) ∧ w'.cell? ⟨w3.heap.size, 1, none⟩ = some (.int .i64 S) ∧ w'.cell? ⟨w3.heap.size, 2, none⟩ = some (.string emp)) (go_keep) (first
      | (go_at_call 33
         refine (number_any x _).mono ?_
         rintro e w17 ⟨rfl, hb⟩
         have hb : Below w16.heap.size w16 w17 := ⟨hb.os, hb.tape, hb.output, hb.size, hb.block⟩
         have A17 := kp hb A16
         have B17 := kp hb B16
         have C17 := kp hb C16
         have S17 := kp hb S16
         have T17 := kp hb T16
         have P17 := kp hb P16
         have Q17 := kp hb Q16
         have D17 := kp hb D16
         have E17 := kbl E16 hb
         clear hb
         clear ca0 ca1 ca2 cb0 cb1 cb2 cc0 cc1 cc2 cs0 cs1 cs2 ct0 ct1 ct2 cp0 cp1 cp2 cq0 cq1 cq2 cd0 cd1 cd2
         obtain ⟨ca0, ca1, ca2, -⟩ := vf A17
         obtain ⟨cb0, cb1, cb2, -⟩ := vf B17
         obtain ⟨cc0, cc1, cc2, -⟩ := vf C17
         obtain ⟨cs0, cs1, cs2, -⟩ := vf S17
         obtain ⟨ct0, ct1, ct2, -⟩ := vf T17
         obtain ⟨cp0, cp1, cp2, -⟩ := vf P17
         obtain ⟨cq0, cq1, cq2, -⟩ := vf Q17
         obtain ⟨cd0, cd1, cd2, -⟩ := vf D17))
    go_wp2_with (first
      | (go_at_call 24
         (with_reducible show Calls _ _ _ w17 _)
         refine (HJ1.out _ (E17.out)).mono ?_
         rintro e w18 ⟨rfl, hb⟩
         have A18 := kp hb A17
         have B18 := kp hb B17
         have C18 := kp hb C17
         have S18 := kp hb S17
         have T18 := kp hb T17
         have P18 := kp hb P17
         have Q18 := kp hb Q17
         have D18 := kp hb D17
         have E18 := kbl E17 hb
         clear hb
         clear ca0 ca1 ca2 cb0 cb1 cb2 cc0 cc1 cc2 cs0 cs1 cs2 ct0 ct1 ct2 cp0 cp1 cp2 cq0 cq1 cq2 cd0 cd1 cd2
         obtain ⟨ca0, ca1, ca2, -⟩ := vf A18
         obtain ⟨cb0, cb1, cb2, -⟩ := vf B18
         obtain ⟨cc0, cc1, cc2, -⟩ := vf C18
         obtain ⟨cs0, cs1, cs2, -⟩ := vf S18
         obtain ⟨ct0, ct1, ct2, -⟩ := vf T18
         obtain ⟨cp0, cp1, cp2, -⟩ := vf P18
         obtain ⟨cq0, cq1, cq2, -⟩ := vf Q18
         obtain ⟨cd0, cd1, cd2, -⟩ := vf D18
         obtain ⟨da0, da1, da2, -⟩ := vk (vo k1 i1 s1) A18
         obtain ⟨db0, db1, db2, -⟩ := vk (vo k1 i1 s1) B18
         obtain ⟨dc0, dc1, dc2, -⟩ := vk (vo k1 i1 s1) C18
         obtain ⟨ds0, ds1, ds2, -⟩ := vk (vo k1 i1 s1) S18
         obtain ⟨dt0, dt1, dt2, -⟩ := vk (vo k1 i1 s1) T18
         obtain ⟨dp0, dp1, dp2, -⟩ := vk (vo k1 i1 s1) P18
         obtain ⟨dq0, dq1, dq2, -⟩ := vk (vo k1 i1 s1) Q18
         obtain ⟨dd0, dd1, dd2, -⟩ := vk (vo k1 i1 s1) D18
         obtain ⟨dz0, dz1, dz2, -⟩ := vfacts (heap_alloc_new w18 (vo k1 i1 s1)))
      | (go_at_call 24
         (with_reducible show Calls _ _ _ (w18.alloc _) _)
         refine (HJ2.out _ (below_on E18.out (below1 w18 _))).mono ?_
         rintro e w19 ⟨rfl, hb⟩
         have Nm := hid (blk_of hb (heap_alloc_new w18 (vo k1 i1 s1)) (by simp))
         replace hb := below_on (below1 w18 (vo k1 i1 s1)) hb
         have A19 := kp hb A18
         have B19 := kp hb B18
         have C19 := kp hb C18
         have S19 := kp hb S18
         have T19 := kp hb T18
         have P19 := kp hb P18
         have Q19 := kp hb Q18
         have D19 := kp hb D18
         have E19 := kbl E18 hb
         clear hb
         have M19 := Nm
         clear ca0 ca1 ca2 cb0 cb1 cb2 cc0 cc1 cc2 cs0 cs1 cs2 ct0 ct1 ct2 cp0 cp1 cp2 cq0 cq1 cq2 cd0 cd1 cd2 da0 da1 da2 db0 db1 db2 dc0 dc1 dc2 ds0 ds1 ds2 dt0 dt1 dt2 dp0 dp1 dp2 dq0 dq1 dq2 dd0 dd1 dd2 dz0 dz1 dz2
         obtain ⟨ca0, ca1, ca2, -⟩ := vf A19
         obtain ⟨cb0, cb1, cb2, -⟩ := vf B19
         obtain ⟨cc0, cc1, cc2, -⟩ := vf C19
         obtain ⟨cs0, cs1, cs2, -⟩ := vf S19
         obtain ⟨ct0, ct1, ct2, -⟩ := vf T19
         obtain ⟨cp0, cp1, cp2, -⟩ := vf P19
         obtain ⟨cq0, cq1, cq2, -⟩ := vf Q19
         obtain ⟨cd0, cd1, cd2, -⟩ := vf D19
         obtain ⟨cm0, cm1, cm2, -⟩ := vf M19
         obtain ⟨da0, da1, da2, -⟩ := vk (vo k2 i2 s2) A19
         obtain ⟨db0, db1, db2, -⟩ := vk (vo k2 i2 s2) B19
         obtain ⟨dc0, dc1, dc2, -⟩ := vk (vo k2 i2 s2) C19
         obtain ⟨ds0, ds1, ds2, -⟩ := vk (vo k2 i2 s2) S19
         obtain ⟨dt0, dt1, dt2, -⟩ := vk (vo k2 i2 s2) T19
         obtain ⟨dp0, dp1, dp2, -⟩ := vk (vo k2 i2 s2) P19
         obtain ⟨dq0, dq1, dq2, -⟩ := vk (vo k2 i2 s2) Q19
         obtain ⟨dd0, dd1, dd2, -⟩ := vk (vo k2 i2 s2) D19
         obtain ⟨dm0, dm1, dm2, -⟩ := vk (vo k2 i2 s2) M19
         obtain ⟨dz0, dz1, dz2, -⟩ := vfacts (heap_alloc_new w19 (vo k2 i2 s2)))
      | (go_at_call 9
         (with_reducible show Calls _ _ _ (w19.alloc _) _)
         refine (known_any _).mono ?_
         rintro e w20 ⟨rfl, hb⟩
         have Nn := hid (blk_of hb (heap_alloc_new w19 (vo k2 i2 s2)) (by simp))
         replace hb := below_on (below1 w19 (vo k2 i2 s2)) hb
         have A20 := kp hb A19
         have B20 := kp hb B19
         have C20 := kp hb C19
         have S20 := kp hb S19
         have T20 := kp hb T19
         have P20 := kp hb P19
         have Q20 := kp hb Q19
         have D20 := kp hb D19
         have M20 := kp hb M19
         have E20 := kbl E19 hb
         clear hb
         have N20 := Nn
         clear ca0 ca1 ca2 cb0 cb1 cb2 cc0 cc1 cc2 cs0 cs1 cs2 ct0 ct1 ct2 cp0 cp1 cp2 cq0 cq1 cq2 cd0 cd1 cd2 cm0 cm1 cm2 da0 da1 da2 db0 db1 db2 dc0 dc1 dc2 ds0 ds1 ds2 dt0 dt1 dt2 dp0 dp1 dp2 dq0 dq1 dq2 dd0 dd1 dd2 dm0 dm1 dm2 dz0 dz1 dz2
         obtain ⟨ca0, ca1, ca2, -⟩ := vf A20
         obtain ⟨cb0, cb1, cb2, -⟩ := vf B20
         obtain ⟨cc0, cc1, cc2, -⟩ := vf C20
         obtain ⟨cs0, cs1, cs2, -⟩ := vf S20
         obtain ⟨ct0, ct1, ct2, -⟩ := vf T20
         obtain ⟨cp0, cp1, cp2, -⟩ := vf P20
         obtain ⟨cq0, cq1, cq2, -⟩ := vf Q20
         obtain ⟨cd0, cd1, cd2, -⟩ := vf D20
         obtain ⟨cm0, cm1, cm2, -⟩ := vf M20
         obtain ⟨cn0, cn1, cn2, -⟩ := vf N20))
    go_ret
    exact ⟨rfl, E20.out⟩
  · as_aux_lemma =>
    go_wp2
    go_name_world w16 hV
    have Nd := hid (show w16.heap[w14.heap.size]? = some (vo 1 x emp) by rw [← hV]; exact set3 D15.out _ _ _)
    have A16 := hid (show w16.heap[w.heap.size]? = some (vo ka ia sa) by rw [← hV]; exact set3_other A15.out (by have := lt_of A14.out; omega) _ _ _)
    have B16 := hid (show w16.heap[w.heap.size + 1]? = some (vo kb ib sb) by rw [← hV]; exact set3_other B15.out (by have := lt_of B14.out; omega) _ _ _)
    have C16 := hid (show w16.heap[w.heap.size + 1 + 1]? = some (vo kc ic sc) by rw [← hV]; exact set3_other C15.out (by have := lt_of C14.out; omega) _ _ _)
    have S16 := hid (show w16.heap[w3.heap.size]? = some (vo 1 S emp) by rw [← hV]; exact set3_other S15.out (by have := lt_of S14.out; omega) _ _ _)
    have T16 := hid (show w16.heap[w6.heap.size]? = some (vo 1 S emp) by rw [← hV]; exact set3_other T15.out (by have := lt_of T14.out; omega) _ _ _)
    have P16 := hid (show w16.heap[w9.heap.size]? = some (vo 0 0 emp) by rw [← hV]; exact set3_other P15.out (by have := lt_of P14.out; omega) _ _ _)
    have Q16 := hid (show w16.heap[w12.heap.size]? = some (vo 0 0 emp) by rw [← hV]; exact set3_other Q15.out (by have := lt_of Q14.out; omega) _ _ _)
    have E16 := hid (show Below w.heap.size w w16 by rw [← hV]; exact Below.set3 E15.out (by have := E14.out.size; omega) _ _ _)
    have D16 := Nd
    clear hV cd0 cd1 cd2 fd hne hne2
    clear ca0 ca1 ca2 cb0 cb1 cb2 cc0 cc1 cc2 cs0 cs1 cs2 ct0 ct1 ct2 cp0 cp1 cp2 cq0 cq1 cq2
    obtain ⟨ca0, ca1, ca2, -⟩ := vf A16
    obtain ⟨cb0, cb1, cb2, -⟩ := vf B16
    obtain ⟨cc0, cc1, cc2, -⟩ := vf C16
    obtain ⟨cs0, cs1, cs2, -⟩ := vf S16
    obtain ⟨ct0, ct1, ct2, -⟩ := vf T16
    obtain ⟨cp0, cp1, cp2, -⟩ := vf P16
    obtain ⟨cq0, cq1, cq2, -⟩ := vf Q16
    obtain ⟨cd0, cd1, cd2, -⟩ := vf D16
    go_region_held (fun w' => w'.cell? ⟨w14.heap.size, 0, none⟩ = some (.int .i64 1) ∧ w'.cell? ⟨w14.heap.size, 1, none⟩ = some (.int .i64 x) ∧ w'.cell? ⟨w14.heap.size, 2, none⟩ = some (.string emp) ∧ w'.cell? ⟨w3.heap.size, 0, none⟩ = some (.int .i64 1) ∧ w'.cell? ⟨w3.heap.size, 1, none⟩ = some (.int .i64 S) ∧ w'.cell? ⟨w3.heap.size, 2, none⟩ = some (.string emp)) (go_keep) (first
      | (go_at_call 33
         refine (number_any x _).mono ?_
         rintro e w17 ⟨rfl, hb⟩
         have hb : Below w16.heap.size w16 w17 := ⟨hb.os, hb.tape, hb.output, hb.size, hb.block⟩
         have A17 := kp hb A16
         have B17 := kp hb B16
         have C17 := kp hb C16
         have S17 := kp hb S16
         have T17 := kp hb T16
         have P17 := kp hb P16
         have Q17 := kp hb Q16
         have D17 := kp hb D16
         have E17 := kbl E16 hb
         clear hb
         clear ca0 ca1 ca2 cb0 cb1 cb2 cc0 cc1 cc2 cs0 cs1 cs2 ct0 ct1 ct2 cp0 cp1 cp2 cq0 cq1 cq2 cd0 cd1 cd2
         obtain ⟨ca0, ca1, ca2, -⟩ := vf A17
         obtain ⟨cb0, cb1, cb2, -⟩ := vf B17
         obtain ⟨cc0, cc1, cc2, -⟩ := vf C17
         obtain ⟨cs0, cs1, cs2, -⟩ := vf S17
         obtain ⟨ct0, ct1, ct2, -⟩ := vf T17
         obtain ⟨cp0, cp1, cp2, -⟩ := vf P17
         obtain ⟨cq0, cq1, cq2, -⟩ := vf Q17
         obtain ⟨cd0, cd1, cd2, -⟩ := vf D17))
    go_wp2_with (first
      | (go_at_call 24
         (with_reducible show Calls _ _ _ w17 _)
         refine (HJ1.out _ (E17.out)).mono ?_
         rintro e w18 ⟨rfl, hb⟩
         have A18 := kp hb A17
         have B18 := kp hb B17
         have C18 := kp hb C17
         have S18 := kp hb S17
         have T18 := kp hb T17
         have P18 := kp hb P17
         have Q18 := kp hb Q17
         have D18 := kp hb D17
         have E18 := kbl E17 hb
         clear hb
         clear ca0 ca1 ca2 cb0 cb1 cb2 cc0 cc1 cc2 cs0 cs1 cs2 ct0 ct1 ct2 cp0 cp1 cp2 cq0 cq1 cq2 cd0 cd1 cd2
         obtain ⟨ca0, ca1, ca2, -⟩ := vf A18
         obtain ⟨cb0, cb1, cb2, -⟩ := vf B18
         obtain ⟨cc0, cc1, cc2, -⟩ := vf C18
         obtain ⟨cs0, cs1, cs2, -⟩ := vf S18
         obtain ⟨ct0, ct1, ct2, -⟩ := vf T18
         obtain ⟨cp0, cp1, cp2, -⟩ := vf P18
         obtain ⟨cq0, cq1, cq2, -⟩ := vf Q18
         obtain ⟨cd0, cd1, cd2, -⟩ := vf D18
         obtain ⟨da0, da1, da2, -⟩ := vk (vo k1 i1 s1) A18
         obtain ⟨db0, db1, db2, -⟩ := vk (vo k1 i1 s1) B18
         obtain ⟨dc0, dc1, dc2, -⟩ := vk (vo k1 i1 s1) C18
         obtain ⟨ds0, ds1, ds2, -⟩ := vk (vo k1 i1 s1) S18
         obtain ⟨dt0, dt1, dt2, -⟩ := vk (vo k1 i1 s1) T18
         obtain ⟨dp0, dp1, dp2, -⟩ := vk (vo k1 i1 s1) P18
         obtain ⟨dq0, dq1, dq2, -⟩ := vk (vo k1 i1 s1) Q18
         obtain ⟨dd0, dd1, dd2, -⟩ := vk (vo k1 i1 s1) D18
         obtain ⟨dz0, dz1, dz2, -⟩ := vfacts (heap_alloc_new w18 (vo k1 i1 s1)))
      | (go_at_call 24
         (with_reducible show Calls _ _ _ (w18.alloc _) _)
         refine (HJ2.out _ (below_on E18.out (below1 w18 _))).mono ?_
         rintro e w19 ⟨rfl, hb⟩
         have Nm := hid (blk_of hb (heap_alloc_new w18 (vo k1 i1 s1)) (by simp))
         replace hb := below_on (below1 w18 (vo k1 i1 s1)) hb
         have A19 := kp hb A18
         have B19 := kp hb B18
         have C19 := kp hb C18
         have S19 := kp hb S18
         have T19 := kp hb T18
         have P19 := kp hb P18
         have Q19 := kp hb Q18
         have D19 := kp hb D18
         have E19 := kbl E18 hb
         clear hb
         have M19 := Nm
         clear ca0 ca1 ca2 cb0 cb1 cb2 cc0 cc1 cc2 cs0 cs1 cs2 ct0 ct1 ct2 cp0 cp1 cp2 cq0 cq1 cq2 cd0 cd1 cd2 da0 da1 da2 db0 db1 db2 dc0 dc1 dc2 ds0 ds1 ds2 dt0 dt1 dt2 dp0 dp1 dp2 dq0 dq1 dq2 dd0 dd1 dd2 dz0 dz1 dz2
         obtain ⟨ca0, ca1, ca2, -⟩ := vf A19
         obtain ⟨cb0, cb1, cb2, -⟩ := vf B19
         obtain ⟨cc0, cc1, cc2, -⟩ := vf C19
         obtain ⟨cs0, cs1, cs2, -⟩ := vf S19
         obtain ⟨ct0, ct1, ct2, -⟩ := vf T19
         obtain ⟨cp0, cp1, cp2, -⟩ := vf P19
         obtain ⟨cq0, cq1, cq2, -⟩ := vf Q19
         obtain ⟨cd0, cd1, cd2, -⟩ := vf D19
         obtain ⟨cm0, cm1, cm2, -⟩ := vf M19
         obtain ⟨da0, da1, da2, -⟩ := vk (vo k2 i2 s2) A19
         obtain ⟨db0, db1, db2, -⟩ := vk (vo k2 i2 s2) B19
         obtain ⟨dc0, dc1, dc2, -⟩ := vk (vo k2 i2 s2) C19
         obtain ⟨ds0, ds1, ds2, -⟩ := vk (vo k2 i2 s2) S19
         obtain ⟨dt0, dt1, dt2, -⟩ := vk (vo k2 i2 s2) T19
         obtain ⟨dp0, dp1, dp2, -⟩ := vk (vo k2 i2 s2) P19
         obtain ⟨dq0, dq1, dq2, -⟩ := vk (vo k2 i2 s2) Q19
         obtain ⟨dd0, dd1, dd2, -⟩ := vk (vo k2 i2 s2) D19
         obtain ⟨dm0, dm1, dm2, -⟩ := vk (vo k2 i2 s2) M19
         obtain ⟨dz0, dz1, dz2, -⟩ := vfacts (heap_alloc_new w19 (vo k2 i2 s2)))
      | (go_at_call 9
         (with_reducible show Calls _ _ _ (w19.alloc _) _)
         refine (known_any _).mono ?_
         rintro e w20 ⟨rfl, hb⟩
         have Nn := hid (blk_of hb (heap_alloc_new w19 (vo k2 i2 s2)) (by simp))
         replace hb := below_on (below1 w19 (vo k2 i2 s2)) hb
         have A20 := kp hb A19
         have B20 := kp hb B19
         have C20 := kp hb C19
         have S20 := kp hb S19
         have T20 := kp hb T19
         have P20 := kp hb P19
         have Q20 := kp hb Q19
         have D20 := kp hb D19
         have M20 := kp hb M19
         have E20 := kbl E19 hb
         clear hb
         have N20 := Nn
         clear ca0 ca1 ca2 cb0 cb1 cb2 cc0 cc1 cc2 cs0 cs1 cs2 ct0 ct1 ct2 cp0 cp1 cp2 cq0 cq1 cq2 cd0 cd1 cd2 cm0 cm1 cm2 da0 da1 da2 db0 db1 db2 dc0 dc1 dc2 ds0 ds1 ds2 dt0 dt1 dt2 dp0 dp1 dp2 dq0 dq1 dq2 dd0 dd1 dd2 dm0 dm1 dm2 dz0 dz1 dz2
         obtain ⟨ca0, ca1, ca2, -⟩ := vf A20
         obtain ⟨cb0, cb1, cb2, -⟩ := vf B20
         obtain ⟨cc0, cc1, cc2, -⟩ := vf C20
         obtain ⟨cs0, cs1, cs2, -⟩ := vf S20
         obtain ⟨ct0, ct1, ct2, -⟩ := vf T20
         obtain ⟨cp0, cp1, cp2, -⟩ := vf P20
         obtain ⟨cq0, cq1, cq2, -⟩ := vf Q20
         obtain ⟨cd0, cd1, cd2, -⟩ := vf D20
         obtain ⟨cm0, cm1, cm2, -⟩ := vf M20
         obtain ⟨cn0, cn1, cn2, -⟩ := vf N20))
    go_ret
    exact ⟨rfl, E20.out⟩
  · as_aux_lemma =>
    go_wp2
    go_name_world w16 hV
    have Nd := hid (show w16.heap[w13.heap.size]? = some (vo 1 x emp) by rw [← hV]; exact set3 D15.out _ _ _)
    have A16 := hid (show w16.heap[w.heap.size]? = some (vo ka ia sa) by rw [← hV]; exact set3_other A15.out (by have := lt_of A13.out; omega) _ _ _)
    have B16 := hid (show w16.heap[w.heap.size + 1]? = some (vo kb ib sb) by rw [← hV]; exact set3_other B15.out (by have := lt_of B13.out; omega) _ _ _)
    have C16 := hid (show w16.heap[w.heap.size + 1 + 1]? = some (vo kc ic sc) by rw [← hV]; exact set3_other C15.out (by have := lt_of C13.out; omega) _ _ _)
    have S16 := hid (show w16.heap[w3.heap.size]? = some (vo 1 S emp) by rw [← hV]; exact set3_other S15.out (by have := lt_of S13.out; omega) _ _ _)
    have T16 := hid (show w16.heap[w6.heap.size]? = some (vo 1 S emp) by rw [← hV]; exact set3_other T15.out (by have := lt_of T13.out; omega) _ _ _)
    have P16 := hid (show w16.heap[w9.heap.size]? = some (vo 0 0 emp) by rw [← hV]; exact set3_other P15.out (by have := lt_of P13.out; omega) _ _ _)
    have Q16 := hid (show w16.heap[w12.heap.size]? = some (vo 0 0 emp) by rw [← hV]; exact set3_other Q15.out (by have := lt_of Q13.out; omega) _ _ _)
    have E16 := hid (show Below w.heap.size w w16 by rw [← hV]; exact Below.set3 E15.out (by have := E13.out.size; omega) _ _ _)
    have D16 := Nd
    clear hV cd0 cd1 cd2 fd hne hne2
    clear ca0 ca1 ca2 cb0 cb1 cb2 cc0 cc1 cc2 cs0 cs1 cs2 ct0 ct1 ct2 cp0 cp1 cp2 cq0 cq1 cq2
    obtain ⟨ca0, ca1, ca2, -⟩ := vf A16
    obtain ⟨cb0, cb1, cb2, -⟩ := vf B16
    obtain ⟨cc0, cc1, cc2, -⟩ := vf C16
    obtain ⟨cs0, cs1, cs2, -⟩ := vf S16
    obtain ⟨ct0, ct1, ct2, -⟩ := vf T16
    obtain ⟨cp0, cp1, cp2, -⟩ := vf P16
    obtain ⟨cq0, cq1, cq2, -⟩ := vf Q16
    obtain ⟨cd0, cd1, cd2, -⟩ := vf D16
    go_region_held (fun w' => w'.cell? ⟨w13.heap.size, 0, none⟩ = some (.int .i64 1) ∧ w'.cell? ⟨w13.heap.size, 1, none⟩ = some (.int .i64 x) ∧ w'.cell? ⟨w13.heap.size, 2, none⟩ = some (.string emp) ∧ w'.cell? ⟨w3.heap.size, 0, none⟩ = some (.int .i64 1) ∧ w'.cell? ⟨w3.heap.size, 1, none⟩ = some (.int .i64 S) ∧ w'.cell? ⟨w3.heap.size, 2, none⟩ = some (.string emp)) (go_keep) (first
      | (go_at_call 33
         refine (number_any x _).mono ?_
         rintro e w17 ⟨rfl, hb⟩
         have hb : Below w16.heap.size w16 w17 := ⟨hb.os, hb.tape, hb.output, hb.size, hb.block⟩
         have A17 := kp hb A16
         have B17 := kp hb B16
         have C17 := kp hb C16
         have S17 := kp hb S16
         have T17 := kp hb T16
         have P17 := kp hb P16
         have Q17 := kp hb Q16
         have D17 := kp hb D16
         have E17 := kbl E16 hb
         clear hb
         clear ca0 ca1 ca2 cb0 cb1 cb2 cc0 cc1 cc2 cs0 cs1 cs2 ct0 ct1 ct2 cp0 cp1 cp2 cq0 cq1 cq2 cd0 cd1 cd2
         obtain ⟨ca0, ca1, ca2, -⟩ := vf A17
         obtain ⟨cb0, cb1, cb2, -⟩ := vf B17
         obtain ⟨cc0, cc1, cc2, -⟩ := vf C17
         obtain ⟨cs0, cs1, cs2, -⟩ := vf S17
         obtain ⟨ct0, ct1, ct2, -⟩ := vf T17
         obtain ⟨cp0, cp1, cp2, -⟩ := vf P17
         obtain ⟨cq0, cq1, cq2, -⟩ := vf Q17
         obtain ⟨cd0, cd1, cd2, -⟩ := vf D17))
    go_wp2_with (first
      | (go_at_call 24
         (with_reducible show Calls _ _ _ w17 _)
         refine (HJ1.out _ (E17.out)).mono ?_
         rintro e w18 ⟨rfl, hb⟩
         have A18 := kp hb A17
         have B18 := kp hb B17
         have C18 := kp hb C17
         have S18 := kp hb S17
         have T18 := kp hb T17
         have P18 := kp hb P17
         have Q18 := kp hb Q17
         have D18 := kp hb D17
         have E18 := kbl E17 hb
         clear hb
         clear ca0 ca1 ca2 cb0 cb1 cb2 cc0 cc1 cc2 cs0 cs1 cs2 ct0 ct1 ct2 cp0 cp1 cp2 cq0 cq1 cq2 cd0 cd1 cd2
         obtain ⟨ca0, ca1, ca2, -⟩ := vf A18
         obtain ⟨cb0, cb1, cb2, -⟩ := vf B18
         obtain ⟨cc0, cc1, cc2, -⟩ := vf C18
         obtain ⟨cs0, cs1, cs2, -⟩ := vf S18
         obtain ⟨ct0, ct1, ct2, -⟩ := vf T18
         obtain ⟨cp0, cp1, cp2, -⟩ := vf P18
         obtain ⟨cq0, cq1, cq2, -⟩ := vf Q18
         obtain ⟨cd0, cd1, cd2, -⟩ := vf D18
         obtain ⟨da0, da1, da2, -⟩ := vk (vo k1 i1 s1) A18
         obtain ⟨db0, db1, db2, -⟩ := vk (vo k1 i1 s1) B18
         obtain ⟨dc0, dc1, dc2, -⟩ := vk (vo k1 i1 s1) C18
         obtain ⟨ds0, ds1, ds2, -⟩ := vk (vo k1 i1 s1) S18
         obtain ⟨dt0, dt1, dt2, -⟩ := vk (vo k1 i1 s1) T18
         obtain ⟨dp0, dp1, dp2, -⟩ := vk (vo k1 i1 s1) P18
         obtain ⟨dq0, dq1, dq2, -⟩ := vk (vo k1 i1 s1) Q18
         obtain ⟨dd0, dd1, dd2, -⟩ := vk (vo k1 i1 s1) D18
         obtain ⟨dz0, dz1, dz2, -⟩ := vfacts (heap_alloc_new w18 (vo k1 i1 s1)))
      | (go_at_call 24
         (with_reducible show Calls _ _ _ (w18.alloc _) _)
         refine (HJ2.out _ (below_on E18.out (below1 w18 _))).mono ?_
         rintro e w19 ⟨rfl, hb⟩
         have Nm := hid (blk_of hb (heap_alloc_new w18 (vo k1 i1 s1)) (by simp))
         replace hb := below_on (below1 w18 (vo k1 i1 s1)) hb
         have A19 := kp hb A18
         have B19 := kp hb B18
         have C19 := kp hb C18
         have S19 := kp hb S18
         have T19 := kp hb T18
         have P19 := kp hb P18
         have Q19 := kp hb Q18
         have D19 := kp hb D18
         have E19 := kbl E18 hb
         clear hb
         have M19 := Nm
         clear ca0 ca1 ca2 cb0 cb1 cb2 cc0 cc1 cc2 cs0 cs1 cs2 ct0 ct1 ct2 cp0 cp1 cp2 cq0 cq1 cq2 cd0 cd1 cd2 da0 da1 da2 db0 db1 db2 dc0 dc1 dc2 ds0 ds1 ds2 dt0 dt1 dt2 dp0 dp1 dp2 dq0 dq1 dq2 dd0 dd1 dd2 dz0 dz1 dz2
         obtain ⟨ca0, ca1, ca2, -⟩ := vf A19
         obtain ⟨cb0, cb1, cb2, -⟩ := vf B19
         obtain ⟨cc0, cc1, cc2, -⟩ := vf C19
         obtain ⟨cs0, cs1, cs2, -⟩ := vf S19
         obtain ⟨ct0, ct1, ct2, -⟩ := vf T19
         obtain ⟨cp0, cp1, cp2, -⟩ := vf P19
         obtain ⟨cq0, cq1, cq2, -⟩ := vf Q19
         obtain ⟨cd0, cd1, cd2, -⟩ := vf D19
         obtain ⟨cm0, cm1, cm2, -⟩ := vf M19
         obtain ⟨da0, da1, da2, -⟩ := vk (vo k2 i2 s2) A19
         obtain ⟨db0, db1, db2, -⟩ := vk (vo k2 i2 s2) B19
         obtain ⟨dc0, dc1, dc2, -⟩ := vk (vo k2 i2 s2) C19
         obtain ⟨ds0, ds1, ds2, -⟩ := vk (vo k2 i2 s2) S19
         obtain ⟨dt0, dt1, dt2, -⟩ := vk (vo k2 i2 s2) T19
         obtain ⟨dp0, dp1, dp2, -⟩ := vk (vo k2 i2 s2) P19
         obtain ⟨dq0, dq1, dq2, -⟩ := vk (vo k2 i2 s2) Q19
         obtain ⟨dd0, dd1, dd2, -⟩ := vk (vo k2 i2 s2) D19
         obtain ⟨dm0, dm1, dm2, -⟩ := vk (vo k2 i2 s2) M19
         obtain ⟨dz0, dz1, dz2, -⟩ := vfacts (heap_alloc_new w19 (vo k2 i2 s2)))
      | (go_at_call 9
         (with_reducible show Calls _ _ _ (w19.alloc _) _)
         refine (known_any _).mono ?_
         rintro e w20 ⟨rfl, hb⟩
         have Nn := hid (blk_of hb (heap_alloc_new w19 (vo k2 i2 s2)) (by simp))
         replace hb := below_on (below1 w19 (vo k2 i2 s2)) hb
         have A20 := kp hb A19
         have B20 := kp hb B19
         have C20 := kp hb C19
         have S20 := kp hb S19
         have T20 := kp hb T19
         have P20 := kp hb P19
         have Q20 := kp hb Q19
         have D20 := kp hb D19
         have M20 := kp hb M19
         have E20 := kbl E19 hb
         clear hb
         have N20 := Nn
         clear ca0 ca1 ca2 cb0 cb1 cb2 cc0 cc1 cc2 cs0 cs1 cs2 ct0 ct1 ct2 cp0 cp1 cp2 cq0 cq1 cq2 cd0 cd1 cd2 cm0 cm1 cm2 da0 da1 da2 db0 db1 db2 dc0 dc1 dc2 ds0 ds1 ds2 dt0 dt1 dt2 dp0 dp1 dp2 dq0 dq1 dq2 dd0 dd1 dd2 dm0 dm1 dm2 dz0 dz1 dz2
         obtain ⟨ca0, ca1, ca2, -⟩ := vf A20
         obtain ⟨cb0, cb1, cb2, -⟩ := vf B20
         obtain ⟨cc0, cc1, cc2, -⟩ := vf C20
         obtain ⟨cs0, cs1, cs2, -⟩ := vf S20
         obtain ⟨ct0, ct1, ct2, -⟩ := vf T20
         obtain ⟨cp0, cp1, cp2, -⟩ := vf P20
         obtain ⟨cq0, cq1, cq2, -⟩ := vf Q20
         obtain ⟨cd0, cd1, cd2, -⟩ := vf D20
         obtain ⟨cm0, cm1, cm2, -⟩ := vf M20
         obtain ⟨cn0, cn1, cn2, -⟩ := vf N20))
    go_ret
    exact ⟨rfl, E20.out⟩

end Go.Proofs.Ytiammlngbejhkaa
