import Derived.Test.YtdnlfacfleemeaaK24
import Derived.Test.YtdnlfacfleemeaaK25
namespace Go.Proofs.Ytdnlfacfleemeaa
open Go.RowKit Go.Lib

set_option maxRecDepth 100000 in
set_option maxHeartbeats 32000000 in
theorem back_eq (f : Int) (S : Value) (ys : List Tx2) (x : Tx2) (i fi : Int) (w : World) (h : BatR w S ys) (hx : Tx2Ok w x) (hs1 : Sma (ys.map Tx2.t)) (hs2 : Sma [x.t]) (hE : batChk f (ys.map Tx2.t) = 0) (l : List Int) (hR : batE f (ys.map Tx2.t) = .ok l) (hR1 : batE fi (ys.map Tx2.t) = .ok l) :
    Calls Try.prog 3 #[.agg #[.int .i64 f, S], txv x.t x.S1 x.S2, .int .i64 i, .int .i64 fi] w fun e w' => e = .returned (.bool true) ∧ Below w.heap.size w w' := by
  have H0 := hid (bx_start w f S x)
  have HB := hid h
  have HTS := hid h.ts
  have HX := hid hx
  have HSA := hid hs1
  have HSX := hid hs2
  have ho : ∀ t ∈ ys.map Tx2.t, TxOk t := by
    intro t ht
    obtain ⟨y, hy, rfl⟩ := List.mem_map.1 ht
    exact (h.2 y hy).2.2
  have HO := hid ho
  have hl3 : ys.length ≤ 300 := by have := hs1.1; rwa [List.length_map] at this
  have HL1 := hid (fun W (hb : Below w.heap.size w W) => long_any 0 f S (ys.map Tx2.t) W (HTS.out.below hb))
  have HL2 := hid (fun W (hb : Below w.heap.size w W) => long_any 0 0 _ [x.t] _ (one_ts HX.out hb))
  unfold LgP at HL1 HL2
  rw [decide_eq_true hs1] at HL1
  rw [decide_eq_true hs2] at HL2
  have HC := hid (fun W (hb : Below w.heap.size w W) => bcheck_any 0 f S (ys.map Tx2.t) W (HTS.out.below hb) (sma_L HSA.out) (by rw [List.length_map]; omega))
  have HE := hid (fun W (hb : Below w.heap.size w W) => bencode_any 0 f S (ys.map Tx2.t) W (HTS.out.below hb) (sma_L HSA.out) (by rw [List.length_map]; omega) HO.out)
  have HTW := hid (fun W (hb : Below w.heap.size w W) => twin_any f S ys W (HB.out.below hb) HSA.out)
  obtain ⟨ao, cap, rfl, -⟩ := h.1.shape
  obtain ⟨ts, hts⟩ : ∃ ts, ts = ys.map Tx2.t := ⟨_, rfl⟩
  have hly : ys.length = ts.length := by rw [hts, List.length_map]
  rw [← hts] at HSA HO HTS HC HE HTW hE hR hR1
  rw [hly] at HTS HL1 HC HE HTW H0 hl3 ⊢
  clear h hx hs1 hs2 ho HB hts hly
  rw [hE] at HC
  have HOK := hid hR
  obtain ⟨b1, b2, b3⟩ := batE_ok hR
  have hdec := dec_batB f ts b1 HO.out b2
  rw [← b3] at hdec b2
  obtain ⟨_, _, lo, lh, _, _⟩ := batChk_good f ts hE
  have hoct : Oct l := by
    rw [b3]
    exact batB_oct f ts b1 HO.out
  rw [hR] at HE
  unfold BEnc at HE
  dsimp only at HE
  have HD := hid (fun v W hW => bdecode_any v l W hW hoct)
  rw [hdec] at HD
  unfold DB at HD
  dsimp only at HD
  have HSm := hid (fun W S1 S2 h1 h2 => bsame_any 0 0 f S1 ts f S2 ts W h1 h2 (sma_L HSA.out) (by omega))
  rw [decide_eq_true (And.intro rfl rfl)] at HSm
  have hl65 : decide ((65536 : Int) < (l.length : Int)) = false := by simp; omega
  have HLL := hid b2
  have htb : -(ts.length : Int) < i.tmod ts.length ∧ i.tmod ts.length < ts.length := by
    have h1 : (i.tmod ts.length).natAbs < ts.length := by
      rw [Int.natAbs_tmod]
      exact Nat.mod_lt _ (by omega)
    omega
  have HTB := hid htb
  have hpos' : (0 : Int) < (ts.length : Int) := by omega
  clear hR hE hdec b1 b3 hoct htb
  obtain ⟨t, a1, c1, a2, c2⟩ := x
  dsimp only [Tx2.S1, Tx2.S2] at *
  unfold TwB at HTW
  go_enter Try.func3, Try.ntmps3
  go_upto_region 13 with (first
    | (go_at_call 6
       first
       | ((with_reducible show Calls _ _ _ (World.alloc (World.alloc w _) _) _)
          refine (HL1.out _ H0.out.hb).mono ?_
          rintro e w1 ⟨rfl, hb1⟩
          have H1 := hid (H0.out.below hb1)
          obtain ⟨q0, q1, q2, q3, q4, q5, -⟩ := vfacts6 H1.out.r5
          clear hb1)
       | (refine (HL2.out _ H1.out.hb).mono ?_
          rintro e w2 ⟨rfl, hb2⟩
          have H2 := hid (H1.out.below (below_on (below1 w1 _) hb2))
          obtain ⟨p0, p1, -⟩ := vfacts2 H2.out.r4
          clear hb2))
    | (go_at_call 7
       refine (HC.out _ H2.out.hb).mono ?_
       rintro e w3 ⟨rfl, hb3⟩
       have H3 := hid (H2.out.below hb3)
       obtain ⟨p0, p1, -⟩ := vfacts2 H3.out.r4
       clear hb3)
    | (go_at_call 8
       refine (HE.out _ H3.out.hb).mono ?_
       rintro e w4 ⟨hb4, g4, rfl, ho4, hg4⟩
       have H4 := hid (And.intro (H3.out.below hb4) ho4)
       clear hb4 ho4 hg4)
    | (go_at_call 10
       refine (HD.out _ _ (own_sl H4.out.2 (by omega))).mono ?_
       rintro e w5 ⟨hb5, Sc, rfl, hts5⟩
       have H5 := hid (And.intro (H4.out.1.below hb5) (And.intro (blk_of hb5 H4.out.2 (lt_of H4.out.2)) (hts5.mono (Nat.zero_le _))))
       obtain ⟨ao5, cap5, rfl⟩ := hts5.form
       obtain ⟨p0, p1, -⟩ := vfacts2 H5.out.1.r4
       have k5 := lt_of H5.out.1.r4
       clear hb5 hts5)
    | (go_at_call 11
       refine (HSm.out _ _ _ (HTS.out.below (below_on H5.out.1.hb (below1 w5 _))) (H5.out.2.2.below (below1 w5 _))).mono ?_
       rintro e w6 ⟨rfl, hb6⟩
       have hb6' := below_on (below1 w5 _) hb6
       have H6 := hid (And.intro (H5.out.1.below hb6') (blk_of hb6' H5.out.2.1 (lt_of H5.out.2.1)))
       obtain ⟨p0, p1, -⟩ := vfacts2 H6.out.1.r4
       clear hb6 hb6')
    | (go_at_call 12
       refine (HTW.out _ H6.out.1.hb).mono ?_
       rintro e w7 ⟨zs, tb, c, cur, rfl, hz7, hc7, hB7, hk7, hat7, hzl7, hb7⟩
       have H8 := hid (bk4_start H6.out hz7 hc7 hB7 hk7 hat7 hzl7 hb7 (bo fi (.slice (some ⟨tb, 0, none⟩) ts.length c)))
       clear hz7 hc7 hB7 hk7 hat7 hzl7 hb7))
  clear H1 H2 H3 H4 H5 H6 HC HE HD HSm HTW HL1 HL2 q0 q1 q2 q3 q4 q5 p0 p1 H0 k5
  go_upto_region 14 with fail
  obtain ⟨q, hq⟩ : ∃ q, q = w7.heap.size := ⟨_, rfl⟩
  obtain ⟨B, hBq⟩ : ∃ B, B = w6.heap.size := ⟨_, rfl⟩
  rw [← hq, ← hBq] at H8
  rw [← hq]
  refine cutG (fun W => Bk4 w W f (.slice ao ts.length cap) ⟨t, a1, c1, a2, c2⟩ g4 l B tb c zs ts q (bo fi (.slice (some ⟨tb, 0, none⟩) ts.length c))) H8.out ?_
  intro W9 H9
  have H9 := hid H9
  clear H8 hq hBq
  obtain ⟨r0, r1, rz⟩ := vfacts2 H9.out.rq
  have HE2 := hid (fun W (h : TsAt 0 W (.slice (some ⟨tb, 0, none⟩) ts.length c) ts) => bencode_any 0 fi _ ts W h (sma_L HSA.out) (by omega) HO.out)
  obtain ⟨m, hm⟩ : ∃ m, l = m := ⟨_, rfl⟩
  rw [hm] at hR1
  have hinj1 := batE_inj HOK.out hR1 HO.out HO.out
  have hlm := (batE_ok hR1).2.1
  rw [← (batE_ok hR1).2.2] at hlm
  rw [hR1] at HE2
  unfold BEnc at HE2
  dsimp only at HE2
  have HBY := hid (fun g W ha hb => bytes_any (.slice (some ⟨g4, 0, none⟩) l.length l.length) (.slice (some ⟨g, 0, none⟩) m.length m.length) l m W ha hb (by omega))
  rw [decide_eq_true hm] at HBY
  have hff : f = fi := (hinj1.1 hm).1
  subst hff
  clear hR1 hinj1 hm
  go_upto_region 15 with (first
    | (go_at_call 8
       refine (HE2.out _ H9.out.tn.ts).mono ?_
       rintro e w10 ⟨hb10, g10, rfl, ho10, hg10⟩
       have H10 := hid (H9.out.below hb10)
       have HO10 := hid ho10
       obtain ⟨p0, p1, -⟩ := vfacts2 H10.out.bx.r4
       clear hb10 ho10 hg10))
  have HSB := hid (And.intro (own_sl (w := w10.drew) H10.out.ow (by omega)) (own_sl (w := w10.drew) HO10.out (by omega)))
  go_region_held (fun wx => wx.cell? ⟨w.heap.size, 0, none⟩ = some (.int .i64 f)) (go_keep) (first
    | (go_at_call 13
       refine (HBY.out g10 w10.drew HSB.out.1 HSB.out.2).mono ?_
       rintro e w11 ⟨hd11, rfl⟩
       have H11a := hid (H10.out.below (below_on (below_drew w10) hd11.below))
       obtain ⟨p0, p1, -⟩ := vfacts2 H11a.out.bx.r4
       clear hd11))
  obtain ⟨W10, hW10⟩ : ∃ W10, W10 = w11 := ⟨_, rfl⟩
  rw [← hW10]
  have H10 := hid (show Bk4 w W10 f (.slice ao ts.length cap) ⟨t, a1, c1, a2, c2⟩ g4 l B tb c zs ts q (bo f (.slice (some ⟨tb, 0, none⟩) ts.length c)) by rw [hW10]; exact H11a.out)
  clear hW10 p0 p1 r0 r1 rz HSB HO10 HBY H11a
  have HF := hid (H10.out.first (.int .i64 f))
  obtain ⟨p0, p1, -⟩ := vfacts2 H10.out.bx.r4
  obtain ⟨r0, r1, rz⟩ := vfacts2 H10.out.rq
  have hqq := H10.out.lq
  go_upto_region 18 with fail
  refine cutG (fun W => Bk4 w W f (.slice ao ts.length cap) ⟨t, a1, c1, a2, c2⟩ g4 l B tb c zs ts q (bo f (.slice (some ⟨tb, 0, none⟩) ts.length c))) HF.out ?_
  intro W11 H11
  have H11 := hid H11
  clear HF H10 p0 p1 r0 r1 rz hqq
  obtain ⟨p0, p1, -⟩ := vfacts2 H11.out.bx.r4
  by_cases hneg : i.tmod ts.length < 0
  · as_aux_lemma =>
      obtain ⟨cN, hwr, hcN⟩ : ∃ c : Nat, wrap64 (i.tmod ts.length + ts.length) = c ∧ c < ts.length := by
        have := HTB.out
        refine ⟨(i.tmod ts.length + ts.length).toNat, ?_, by omega⟩
        unfold wrap64
        omega
      have HWR := hid hwr
      clear hwr
      go_upto_region 21 with fail
      rw [HWR.out]
      obtain ⟨u, hu⟩ : ∃ u, ts[cN]? = some u := ⟨_, List.getElem?_eq_getElem hcN⟩
      obtain ⟨z, hz, _, hcz⟩ := H11.out.tn.get hu
      obtain ⟨d0, d1, d2, d3, d4, d5⟩ := hcz
      obtain ⟨r0, r1, -⟩ := vfacts2 H11.out.rq
      obtain ⟨s0, s1, s2, s3, s4, s5, -⟩ := vfacts6 H11.out.bx.r5
      have vz : ∀ o, W11.frozen? ⟨tb, o, none⟩ = false := fun o => by obtain ⟨cs, hcs⟩ := H11.out.tn.bk; simp [World.frozen?, hcs]
      have hcN' : (cN : Int) < (ts.length : Int) := by omega
      have hccN : (ts.length : Int) ≤ (c : Int) := by have := H11.out.tn.hc; omega
      clear hu hz
      go_upto_region 22 with fail
      refine cutG (fun W => Bq w W f (.slice ao ts.length cap) ⟨t, a1, c1, a2, c2⟩ g4 l q (.slice (some ⟨tb, 0, none⟩) ts.length c) (ts.set cN t)) (H11.out.set HX.out hcN) ?_
      intro W12 H12
      have H12 := hid H12
      have HE3 := hid (fun W (h : TsAt 0 W (.slice (some ⟨tb, 0, none⟩) ts.length c) (ts.set cN t)) => bencode_any 0 f _ (ts.set cN t) W h (set_all (sma_L HSA.out) (sma_L HSX.out t (by simp))) (by rw [List.length_set]; omega) (set_all HO.out HX.out.2.2))
      clear d0 d1 d2 d3 d4 d5 r0 r1 s0 s1 s2 s3 s4 s5 vz
      obtain ⟨p0, p1, -⟩ := vfacts2 H12.out.bx.r4
      obtain ⟨r0, r1, -⟩ := vfacts2 H12.out.rq
      cases hR2 : batE f (ts.set cN t) with
      | error E2 =>
        have hE2 : E2 ≠ 0 := batE_err _ _ _ hR2
        have he2 : (E2 == 0) = false := by simpa using hE2
        rw [hR2] at HE3
        unfold BEnc at HE3
        dsimp only at HE3
        clear hR2 hE2
        go_upto_region 23 with (first
          | (go_at_call 8
             refine (HE3.out _ H12.out.st).mono ?_
             rintro e w13 ⟨hb13, rfl⟩
             have H13 := hid (below_on H12.out.bx.hb hb13)
             clear hb13))
        refine reg23 "outright.go:41" _ _ E2 he2 (by simp) rfl _ (fun b9 w20 hdf hv9 hb20 => ?_)
        rename_i hK9
        refine hK9 b9 w20 (wp_ret ?_)
        exact bodyPost_ret (by rw [results_tmp rfl, hv9]) hdf ⟨rfl, below_on H13.out hb20⟩
      | ok n =>
        have hinj := batE_inj HOK.out hR2 HO.out (set_all HO.out HX.out.2.2)
        have hln := (batE_ok hR2).2.1
        rw [← (batE_ok hR2).2.2] at hln
        rw [hR2] at HE3
        unfold BEnc at HE3
        dsimp only at HE3
        have HSm2 := hid (fun W S1 S2 h1 h2 => bsame_any 0 0 f S1 (ts.set cN t) f S2 ts W h1 h2 (set_all (sma_L HSA.out) (sma_L HSX.out t (by simp))) (by rw [List.length_set]; omega))
        have HBY := hid (fun g W ha hb => bytes_any (.slice (some ⟨g4, 0, none⟩) l.length l.length) (.slice (some ⟨g, 0, none⟩) n.length n.length) l n W ha hb (by omega))
        obtain ⟨D, hD⟩ : ∃ D, D = decide (l = n) := ⟨_, rfl⟩
        have hD2 : decide (f = f ∧ ts.set cN t = ts) = D := by
          rw [hD]
          by_cases e : l = n
          · rw [decide_eq_true e, decide_eq_true ⟨rfl, (hinj.1 e).2.symm⟩]
          · rw [decide_eq_false e, decide_eq_false (fun h => e (hinj.2 ⟨rfl, h.2.symm⟩))]
        rw [hD2] at HSm2
        rw [← hD] at HBY
        clear hR2 hinj hD hD2
        cases D
        all_goals (
          go_upto_region 23 with (first
            | (go_at_call 8
               refine (HE3.out _ H12.out.st).mono ?_
               rintro e w13 ⟨hb13, g13, rfl, ho13, hg13⟩
               have H13 := hid (And.intro (H12.out.bx.below hb13) (And.intro (blk_of hb13 H12.out.ow (lt_of H12.out.ow)) (And.intro ho13 (And.intro (H12.out.st.below hb13) (blk_of hb13 H12.out.rq (lt_of H12.out.rq))))))
               obtain ⟨p0, p1, -⟩ := vfacts2 H13.out.1.r4
               obtain ⟨r0, r1, -⟩ := vfacts2 H13.out.2.2.2.2
               clear hb13 ho13 hg13))
          have HSB := hid (And.intro (own_sl (w := w13.drew) H13.out.2.1 (by omega)) (own_sl (w := w13.drew) H13.out.2.2.1 (by omega)))
          go_region_held (fun wx => wx.cell? ⟨q, 0, none⟩ = some (.int .i64 f) ∧ wx.cell? ⟨q, 1, none⟩ = some (.slice (some ⟨tb, 0, none⟩) ts.length c) ∧ wx.cell? ⟨w.heap.size, 0, none⟩ = some (.int .i64 f) ∧ wx.cell? ⟨w.heap.size, 1, none⟩ = some (.slice ao ts.length cap)) (go_keep) (first
            | (go_at_call 13
               refine (HBY.out g13 w13.drew HSB.out.1 HSB.out.2).mono ?_
               rintro e w14 ⟨hd14, rfl⟩
               have hb14 := below_on (below_drew w13) hd14.below
               have H14 := hid (And.intro (H13.out.1.below hb14) (And.intro (H13.out.2.2.2.1.below hb14) (blk_of hb14 H13.out.2.2.2.2 (lt_of H13.out.2.2.2.2))))
               obtain ⟨p0, p1, -⟩ := vfacts2 H14.out.1.r4
               obtain ⟨r0, r1, -⟩ := vfacts2 H14.out.2.2
               clear hd14 hb14)
            | (go_at_call 11
               refine (HSm2.out w14 _ _ H14.out.2.1 (HTS.out.below H14.out.1.hb)).mono ?_
               rintro e w15 ⟨rfl, hb15⟩
               have H15 := hid (And.intro (H14.out.1.below hb15) (blk_of hb15 H14.out.2.2 (lt_of H14.out.2.2)))
               obtain ⟨p0, p1, -⟩ := vfacts2 H15.out.1.r4
               obtain ⟨r0, r1, -⟩ := vfacts2 H15.out.2
               clear hb15)
            | (go_at_call 9
               refine (known_any w15).mono ?_
               rintro e w20 ⟨rfl, hb20⟩
               have H20 := hid (And.intro (H15.out.1.below hb20) (blk_of hb20 H15.out.2 (lt_of H15.out.2)))
               obtain ⟨p0, p1, -⟩ := vfacts2 H20.out.1.r4
               obtain ⟨r0, r1, -⟩ := vfacts2 H20.out.2
               clear hb20))
          go_wp2
          go_ret
          exact ⟨rfl, H20.out.1.hb⟩)
  · as_aux_lemma =>
      obtain ⟨cN, hwr, hcN⟩ : ∃ c : Nat, i.tmod ts.length = c ∧ c < ts.length := by
        have := HTB.out
        exact ⟨(i.tmod ts.length).toNat, by omega, by omega⟩
      have HWR := hid hwr
      clear hwr
      go_upto_region 21 with fail
      rw [HWR.out]
      clear hneg
      obtain ⟨u, hu⟩ : ∃ u, ts[cN]? = some u := ⟨_, List.getElem?_eq_getElem hcN⟩
      obtain ⟨z, hz, _, hcz⟩ := H11.out.tn.get hu
      obtain ⟨d0, d1, d2, d3, d4, d5⟩ := hcz
      obtain ⟨r0, r1, -⟩ := vfacts2 H11.out.rq
      obtain ⟨s0, s1, s2, s3, s4, s5, -⟩ := vfacts6 H11.out.bx.r5
      have vz : ∀ o, W11.frozen? ⟨tb, o, none⟩ = false := fun o => by obtain ⟨cs, hcs⟩ := H11.out.tn.bk; simp [World.frozen?, hcs]
      have hcN' : (cN : Int) < (ts.length : Int) := by omega
      have hccN : (ts.length : Int) ≤ (c : Int) := by have := H11.out.tn.hc; omega
      clear hu hz
      go_upto_region 22 with fail
      refine cutG (fun W => Bq w W f (.slice ao ts.length cap) ⟨t, a1, c1, a2, c2⟩ g4 l q (.slice (some ⟨tb, 0, none⟩) ts.length c) (ts.set cN t)) (H11.out.set HX.out hcN) ?_
      intro W12 H12
      have H12 := hid H12
      have HE3 := hid (fun W (h : TsAt 0 W (.slice (some ⟨tb, 0, none⟩) ts.length c) (ts.set cN t)) => bencode_any 0 f _ (ts.set cN t) W h (set_all (sma_L HSA.out) (sma_L HSX.out t (by simp))) (by rw [List.length_set]; omega) (set_all HO.out HX.out.2.2))
      clear d0 d1 d2 d3 d4 d5 r0 r1 s0 s1 s2 s3 s4 s5 vz
      obtain ⟨p0, p1, -⟩ := vfacts2 H12.out.bx.r4
      obtain ⟨r0, r1, -⟩ := vfacts2 H12.out.rq
      cases hR2 : batE f (ts.set cN t) with
      | error E2 =>
        have hE2 : E2 ≠ 0 := batE_err _ _ _ hR2
        have he2 : (E2 == 0) = false := by simpa using hE2
        rw [hR2] at HE3
        unfold BEnc at HE3
        dsimp only at HE3
        clear hR2 hE2
        go_upto_region 23 with (first
          | (go_at_call 8
             refine (HE3.out _ H12.out.st).mono ?_
             rintro e w13 ⟨hb13, rfl⟩
             have H13 := hid (below_on H12.out.bx.hb hb13)
             clear hb13))
        refine reg23 "outright.go:41" _ _ E2 he2 (by simp) rfl _ (fun b9 w20 hdf hv9 hb20 => ?_)
        rename_i hK9
        refine hK9 b9 w20 (wp_ret ?_)
        exact bodyPost_ret (by rw [results_tmp rfl, hv9]) hdf ⟨rfl, below_on H13.out hb20⟩
      | ok n =>
        have hinj := batE_inj HOK.out hR2 HO.out (set_all HO.out HX.out.2.2)
        have hln := (batE_ok hR2).2.1
        rw [← (batE_ok hR2).2.2] at hln
        rw [hR2] at HE3
        unfold BEnc at HE3
        dsimp only at HE3
        have HSm2 := hid (fun W S1 S2 h1 h2 => bsame_any 0 0 f S1 (ts.set cN t) f S2 ts W h1 h2 (set_all (sma_L HSA.out) (sma_L HSX.out t (by simp))) (by rw [List.length_set]; omega))
        have HBY := hid (fun g W ha hb => bytes_any (.slice (some ⟨g4, 0, none⟩) l.length l.length) (.slice (some ⟨g, 0, none⟩) n.length n.length) l n W ha hb (by omega))
        obtain ⟨D, hD⟩ : ∃ D, D = decide (l = n) := ⟨_, rfl⟩
        have hD2 : decide (f = f ∧ ts.set cN t = ts) = D := by
          rw [hD]
          by_cases e : l = n
          · rw [decide_eq_true e, decide_eq_true ⟨rfl, (hinj.1 e).2.symm⟩]
          · rw [decide_eq_false e, decide_eq_false (fun h => e (hinj.2 ⟨rfl, h.2.symm⟩))]
        rw [hD2] at HSm2
        rw [← hD] at HBY
        clear hR2 hinj hD hD2
        cases D
        all_goals (
          go_upto_region 23 with (first
            | (go_at_call 8
               refine (HE3.out _ H12.out.st).mono ?_
               rintro e w13 ⟨hb13, g13, rfl, ho13, hg13⟩
               have H13 := hid (And.intro (H12.out.bx.below hb13) (And.intro (blk_of hb13 H12.out.ow (lt_of H12.out.ow)) (And.intro ho13 (And.intro (H12.out.st.below hb13) (blk_of hb13 H12.out.rq (lt_of H12.out.rq))))))
               obtain ⟨p0, p1, -⟩ := vfacts2 H13.out.1.r4
               obtain ⟨r0, r1, -⟩ := vfacts2 H13.out.2.2.2.2
               clear hb13 ho13 hg13))
          have HSB := hid (And.intro (own_sl (w := w13.drew) H13.out.2.1 (by omega)) (own_sl (w := w13.drew) H13.out.2.2.1 (by omega)))
          go_region_held (fun wx => wx.cell? ⟨q, 0, none⟩ = some (.int .i64 f) ∧ wx.cell? ⟨q, 1, none⟩ = some (.slice (some ⟨tb, 0, none⟩) ts.length c) ∧ wx.cell? ⟨w.heap.size, 0, none⟩ = some (.int .i64 f) ∧ wx.cell? ⟨w.heap.size, 1, none⟩ = some (.slice ao ts.length cap)) (go_keep) (first
            | (go_at_call 13
               refine (HBY.out g13 w13.drew HSB.out.1 HSB.out.2).mono ?_
               rintro e w14 ⟨hd14, rfl⟩
               have hb14 := below_on (below_drew w13) hd14.below
               have H14 := hid (And.intro (H13.out.1.below hb14) (And.intro (H13.out.2.2.2.1.below hb14) (blk_of hb14 H13.out.2.2.2.2 (lt_of H13.out.2.2.2.2))))
               obtain ⟨p0, p1, -⟩ := vfacts2 H14.out.1.r4
               obtain ⟨r0, r1, -⟩ := vfacts2 H14.out.2.2
               clear hd14 hb14)
            | (go_at_call 11
               refine (HSm2.out w14 _ _ H14.out.2.1 (HTS.out.below H14.out.1.hb)).mono ?_
               rintro e w15 ⟨rfl, hb15⟩
               have H15 := hid (And.intro (H14.out.1.below hb15) (blk_of hb15 H14.out.2.2 (lt_of H14.out.2.2)))
               obtain ⟨p0, p1, -⟩ := vfacts2 H15.out.1.r4
               obtain ⟨r0, r1, -⟩ := vfacts2 H15.out.2
               clear hb15)
            | (go_at_call 9
               refine (known_any w15).mono ?_
               rintro e w20 ⟨rfl, hb20⟩
               have H20 := hid (And.intro (H15.out.1.below hb20) (blk_of hb20 H15.out.2 (lt_of H15.out.2)))
               obtain ⟨p0, p1, -⟩ := vfacts2 H20.out.1.r4
               obtain ⟨r0, r1, -⟩ := vfacts2 H20.out.2
               clear hb20))
          go_wp2
          go_ret
          exact ⟨rfl, H20.out.1.hb⟩)

end Go.Proofs.Ytdnlfacfleemeaa
