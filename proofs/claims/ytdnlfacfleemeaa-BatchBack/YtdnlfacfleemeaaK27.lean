import Derived.Test.YtdnlfacfleemeaaK24
import Derived.Test.YtdnlfacfleemeaaK25
import Derived.Test.YtdnlfacfleemeaaK26
import Derived.ProofKit
import Derived.OpenShut
import Derived.ShutString
import Derived.ChangeOld
namespace Go.Proofs.Ytdnlfacfleemeaa
open Go.RowKit Go.Lib

set_option maxRecDepth 100000 in
set_option maxHeartbeats 32000000 in
theorem back_ne (f : Int) (S : Value) (ys : List Tx2) (x : Tx2) (i fi : Int) (w : World) (h : BatR w S ys) (hx : Tx2Ok w x) (hs1 : Sma (ys.map Tx2.t)) (hs2 : Sma [x.t]) (hE : batChk f (ys.map Tx2.t) = 0) (l : List Int) (hR : batE f (ys.map Tx2.t) = .ok l) (m : List Int) (hR1 : batE fi (ys.map Tx2.t) = .ok m) (hm : ¬ l = m) :
    Calls Try.prog 3 #[.agg #[.int .i64 f, S], txv x.t x.S1 x.S2, .int .i64 i, .int .i64 fi] w fun e w' => e = .returned (.bool true) ∧ Below w.heap.size w w' := by
  have H0 := hid (bx_start w f S x)
  have HB := hid h
  have HTS := hid h.ts
  have HX := hid hx
  have HSA := hid hs1
  have HSX := hid hs2
  have ho : ∀ t ∈ ys.map Tx2.t, TxOk t := by
    intro t ht
    obtain ⟨y, hy, rfl⟩ := List.mem_map.1 ht
    exact (h.2 y hy).2.2
  have HO := hid ho
  have hl3 : ys.length ≤ 300 := by have := hs1.1; rwa [List.length_map] at this
  have HL1 := hid (fun W (hb : Below w.heap.size w W) => long_any 0 f S (ys.map Tx2.t) W (HTS.out.below hb))
  have HL2 := hid (fun W (hb : Below w.heap.size w W) => long_any 0 0 _ [x.t] _ (one_ts HX.out hb))
  unfold LgP at HL1 HL2
  rw [decide_eq_true hs1] at HL1
  rw [decide_eq_true hs2] at HL2
  have HC := hid (fun W (hb : Below w.heap.size w W) => bcheck_any 0 f S (ys.map Tx2.t) W (HTS.out.below hb) (sma_L HSA.out) (by rw [List.length_map]; omega))
  have HE := hid (fun W (hb : Below w.heap.size w W) => bencode_any 0 f S (ys.map Tx2.t) W (HTS.out.below hb) (sma_L HSA.out) (by rw [List.length_map]; omega) HO.out)
  have HTW := hid (fun W (hb : Below w.heap.size w W) => twin_any f S ys W (HB.out.below hb) HSA.out)
  obtain ⟨ao, cap, rfl, -⟩ := h.1.shape
  obtain ⟨ts, hts⟩ : ∃ ts, ts = ys.map Tx2.t := ⟨_, rfl⟩
  have hly : ys.length = ts.length := by rw [hts, List.length_map]
  rw [← hts] at HSA HO HTS HC HE HTW hE hR hR1
  rw [hly] at HTS HL1 HC HE HTW H0 hl3 ⊢
  clear h hx hs1 hs2 ho HB hts hly
  rw [hE] at HC
  have HOK := hid hR
  obtain ⟨b1, b2, b3⟩ := batE_ok hR
  have hdec := dec_batB f ts b1 HO.out b2
  rw [← b3] at hdec b2
  obtain ⟨_, _, lo, lh, _, _⟩ := batChk_good f ts hE
  have hoct : Oct l := by
    rw [b3]
    exact batB_oct f ts b1 HO.out
  rw [hR] at HE
  unfold BEnc at HE
  dsimp only at HE
  have HD := hid (fun v W hW => bdecode_any v l W hW hoct)
  rw [hdec] at HD
  unfold DB at HD
  dsimp only at HD
  have HSm := hid (fun W S1 S2 h1 h2 => bsame_any 0 0 f S1 ts f S2 ts W h1 h2 (sma_L HSA.out) (by omega))
  rw [decide_eq_true (And.intro rfl rfl)] at HSm
  have hl65 : decide ((65536 : Int) < (l.length : Int)) = false := by simp; omega
  have HLL := hid b2
  have htb : -(ts.length : Int) < i.tmod ts.length ∧ i.tmod ts.length < ts.length := by
    have h1 : (i.tmod ts.length).natAbs < ts.length := by
      rw [Int.natAbs_tmod]
      exact Nat.mod_lt _ (by omega)
    omega
  have HTB := hid htb
  have hpos' : (0 : Int) < (ts.length : Int) := by omega
  clear hR hE hdec b1 b3 hoct htb
  obtain ⟨t, a1, c1, a2, c2⟩ := x
  dsimp only [Tx2.S1, Tx2.S2] at *
  unfold TwB at HTW
  go_enter Try.func3, Try.ntmps3
  go_upto_region 13 with (first
    | (go_at_call 6
       first
       | ((with_reducible show Calls _ _ _ (World.alloc (World.alloc w _) _) _)
          refine (HL1.out _ H0.out.hb).mono ?_
          rintro e w1 ⟨rfl, hb1⟩
          have H1 := hid (H0.out.below hb1)
          obtain ⟨q0, q1, q2, q3, q4, q5, -⟩ := vfacts6 H1.out.r5
          clear hb1)
       | (refine (HL2.out _ H1.out.hb).mono ?_
          rintro e w2 ⟨rfl, hb2⟩
          have H2 := hid (H1.out.below (below_on (below1 w1 _) hb2))
          obtain ⟨p0, p1, -⟩ := vfacts2 H2.out.r4
          clear hb2))
    | (go_at_call 7
       refine (HC.out _ H2.out.hb).mono ?_
       rintro e w3 ⟨rfl, hb3⟩
       have H3 := hid (H2.out.below hb3)
       obtain ⟨p0, p1, -⟩ := vfacts2 H3.out.r4
       clear hb3)
    | (go_at_call 8
       refine (HE.out _ H3.out.hb).mono ?_
       rintro e w4 ⟨hb4, g4, rfl, ho4, hg4⟩
       have H4 := hid (And.intro (H3.out.below hb4) ho4)
       clear hb4 ho4 hg4)
    | (go_at_call 10
       refine (HD.out _ _ (own_sl H4.out.2 (by omega))).mono ?_
       rintro e w5 ⟨hb5, Sc, rfl, hts5⟩
       have H5 := hid (And.intro (H4.out.1.below hb5) (And.intro (blk_of hb5 H4.out.2 (lt_of H4.out.2)) (hts5.mono (Nat.zero_le _))))
       obtain ⟨ao5, cap5, rfl⟩ := hts5.form
       obtain ⟨p0, p1, -⟩ := vfacts2 H5.out.1.r4
       have k5 := lt_of H5.out.1.r4
       clear hb5 hts5)
    | (go_at_call 11
       refine (HSm.out _ _ _ (HTS.out.below (below_on H5.out.1.hb (below1 w5 _))) (H5.out.2.2.below (below1 w5 _))).mono ?_
       rintro e w6 ⟨rfl, hb6⟩
       have hb6' := below_on (below1 w5 _) hb6
       have H6 := hid (And.intro (H5.out.1.below hb6') (blk_of hb6' H5.out.2.1 (lt_of H5.out.2.1)))
       obtain ⟨p0, p1, -⟩ := vfacts2 H6.out.1.r4
       clear hb6 hb6')
    | (go_at_call 12
       refine (HTW.out _ H6.out.1.hb).mono ?_
       rintro e w7 ⟨zs, tb, c, cur, rfl, hz7, hc7, hB7, hk7, hat7, hzl7, hb7⟩
       have H8 := hid (bk4_start H6.out hz7 hc7 hB7 hk7 hat7 hzl7 hb7 (bo fi (.slice (some ⟨tb, 0, none⟩) ts.length c)))
       clear hz7 hc7 hB7 hk7 hat7 hzl7 hb7))
  clear H1 H2 H3 H4 H5 H6 HC HE HD HSm HTW HL1 HL2 q0 q1 q2 q3 q4 q5 p0 p1 H0 k5
  go_upto_region 14 with fail
  obtain ⟨q, hq⟩ : ∃ q, q = w7.heap.size := ⟨_, rfl⟩
  obtain ⟨B, hBq⟩ : ∃ B, B = w6.heap.size := ⟨_, rfl⟩
  rw [← hq, ← hBq] at H8
  rw [← hq]
  refine cutG (fun W => Bk4 w W f (.slice ao ts.length cap) ⟨t, a1, c1, a2, c2⟩ g4 l B tb c zs ts q (bo fi (.slice (some ⟨tb, 0, none⟩) ts.length c))) H8.out ?_
  intro W9 H9
  have H9 := hid H9
  clear H8 hq hBq
  obtain ⟨r0, r1, rz⟩ := vfacts2 H9.out.rq
  have HE2 := hid (fun W (h : TsAt 0 W (.slice (some ⟨tb, 0, none⟩) ts.length c) ts) => bencode_any 0 fi _ ts W h (sma_L HSA.out) (by omega) HO.out)
  have hinj1 := batE_inj HOK.out hR1 HO.out HO.out
  have hlm := (batE_ok hR1).2.1
  rw [← (batE_ok hR1).2.2] at hlm
  rw [hR1] at HE2
  unfold BEnc at HE2
  dsimp only at HE2
  have HBY := hid (fun g W ha hb => bytes_any (.slice (some ⟨g4, 0, none⟩) l.length l.length) (.slice (some ⟨g, 0, none⟩) m.length m.length) l m W ha hb (by omega))
  have hff : (fi == f) = false := by
    have : ¬ fi = f := fun e => hm (hinj1.2 ⟨e.symm, rfl⟩)
    simpa using this
  rw [decide_eq_false hm] at HBY
  clear hR1 hinj1 hm
  go_upto_region 15 with (first
    | (go_at_call 8
       refine (HE2.out _ H9.out.tn.ts).mono ?_
       rintro e w10 ⟨hb10, g10, rfl, ho10, hg10⟩
       have H10 := hid (H9.out.below hb10)
       have HO10 := hid ho10
       obtain ⟨p0, p1, -⟩ := vfacts2 H10.out.bx.r4
       clear hb10 ho10 hg10))
  have HSB := hid (And.intro (own_sl (w := w10.drew) H10.out.ow (by omega)) (own_sl (w := w10.drew) HO10.out (by omega)))
  go_region_held (fun wx => wx.cell? ⟨w.heap.size, 0, none⟩ = some (.int .i64 f)) (go_keep) (first
    | (go_at_call 13
       refine (HBY.out g10 w10.drew HSB.out.1 HSB.out.2).mono ?_
       rintro e w11 ⟨hd11, rfl⟩
       have H11a := hid (H10.out.below (below_on (below_drew w10) hd11.below))
       obtain ⟨p0, p1, -⟩ := vfacts2 H11a.out.bx.r4
       clear hd11))
  obtain ⟨W10, hW10⟩ : ∃ W10, W10 = w11 := ⟨_, rfl⟩
  rw [← hW10]
  have H10 := hid (show Bk4 w W10 f (.slice ao ts.length cap) ⟨t, a1, c1, a2, c2⟩ g4 l B tb c zs ts q (bo fi (.slice (some ⟨tb, 0, none⟩) ts.length c)) by rw [hW10]; exact H11a.out)
  clear hW10 p0 p1 r0 r1 rz HSB HO10 HBY H11a
  have HF := hid (H10.out.first (.int .i64 f))
  obtain ⟨p0, p1, -⟩ := vfacts2 H10.out.bx.r4
  obtain ⟨r0, r1, rz⟩ := vfacts2 H10.out.rq
  have hqq := H10.out.lq
  go_upto_region 18 with fail
  refine cutG (fun W => Bk4 w W f (.slice ao ts.length cap) ⟨t, a1, c1, a2, c2⟩ g4 l B tb c zs ts q (bo f (.slice (some ⟨tb, 0, none⟩) ts.length c))) HF.out ?_
  intro W11 H11
  have H11 := hid H11
  clear HF H10 p0 p1 r0 r1 rz hqq
  obtain ⟨p0, p1, -⟩ := vfacts2 H11.out.bx.r4
  by_cases hneg : i.tmod ts.length < 0
  · as_aux_lemma =>
      obtain ⟨cN, hwr, hcN⟩ : ∃ c : Nat, wrap64 (i.tmod ts.length + ts.length) = c ∧ c < ts.length := by
        have := HTB.out
        refine ⟨(i.tmod ts.length + ts.length).toNat, ?_, by omega⟩
        unfold wrap64
        omega
      have HWR := hid hwr
      clear hwr
      go_upto_region 21 with fail
      rw [HWR.out]
      obtain ⟨u, hu⟩ : ∃ u, ts[cN]? = some u := ⟨_, List.getElem?_eq_getElem hcN⟩
      obtain ⟨z, hz, _, hcz⟩ := H11.out.tn.get hu
      obtain ⟨d0, d1, d2, d3, d4, d5⟩ := hcz
      obtain ⟨r0, r1, -⟩ := vfacts2 H11.out.rq
      obtain ⟨s0, s1, s2, s3, s4, s5, -⟩ := vfacts6 H11.out.bx.r5
      have vz : ∀ o, W11.frozen? ⟨tb, o, none⟩ = false := fun o => by obtain ⟨cs, hcs⟩ := H11.out.tn.bk; simp [World.frozen?, hcs]
      have hcN' : (cN : Int) < (ts.length : Int) := by omega
      have hccN : (ts.length : Int) ≤ (c : Int) := by have := H11.out.tn.hc; omega
      clear hu hz
      go_upto_region 22 with fail
      refine cutG (fun W => Bq w W f (.slice ao ts.length cap) ⟨t, a1, c1, a2, c2⟩ g4 l q (.slice (some ⟨tb, 0, none⟩) ts.length c) (ts.set cN t)) (H11.out.set HX.out hcN) ?_
      intro W12 H12
      have H12 := hid H12
      have HE3 := hid (fun W (h : TsAt 0 W (.slice (some ⟨tb, 0, none⟩) ts.length c) (ts.set cN t)) => bencode_any 0 f _ (ts.set cN t) W h (set_all (sma_L HSA.out) (sma_L HSX.out t (by simp))) (by rw [List.length_set]; omega) (set_all HO.out HX.out.2.2))
      clear d0 d1 d2 d3 d4 d5 r0 r1 s0 s1 s2 s3 s4 s5 vz
      obtain ⟨p0, p1, -⟩ := vfacts2 H12.out.bx.r4
      obtain ⟨r0, r1, -⟩ := vfacts2 H12.out.rq
      cases hR2 : batE f (ts.set cN t) with
      | error E2 =>
        have hE2 : E2 ≠ 0 := batE_err _ _ _ hR2
        have he2 : (E2 == 0) = false := by simpa using hE2
        rw [hR2] at HE3
        unfold BEnc at HE3
        dsimp only at HE3
        clear hR2 hE2
        go_upto_region 23 with (first
          | (go_at_call 8
             refine (HE3.out _ H12.out.st).mono ?_
             rintro e w13 ⟨hb13, rfl⟩
             have H13 := hid (below_on H12.out.bx.hb hb13)
             clear hb13))
        refine reg23 "outright.go:41" _ _ E2 he2 (by simp) rfl _ (fun b9 w20 hdf hv9 hb20 => ?_)
        rename_i hK9
        refine hK9 b9 w20 (wp_ret ?_)
        exact bodyPost_ret (by rw [results_tmp rfl, hv9]) hdf ⟨rfl, below_on H13.out hb20⟩
      | ok n =>
        have hinj := batE_inj HOK.out hR2 HO.out (set_all HO.out HX.out.2.2)
        have hln := (batE_ok hR2).2.1
        rw [← (batE_ok hR2).2.2] at hln
        rw [hR2] at HE3
        unfold BEnc at HE3
        dsimp only at HE3
        have HSm2 := hid (fun W S1 S2 h1 h2 => bsame_any 0 0 f S1 (ts.set cN t) f S2 ts W h1 h2 (set_all (sma_L HSA.out) (sma_L HSX.out t (by simp))) (by rw [List.length_set]; omega))
        have HBY := hid (fun g W ha hb => bytes_any (.slice (some ⟨g4, 0, none⟩) l.length l.length) (.slice (some ⟨g, 0, none⟩) n.length n.length) l n W ha hb (by omega))
        obtain ⟨D, hD⟩ : ∃ D, D = decide (l = n) := ⟨_, rfl⟩
        have hD2 : decide (f = f ∧ ts.set cN t = ts) = D := by
          rw [hD]
          by_cases e : l = n
          · rw [decide_eq_true e, decide_eq_true ⟨rfl, (hinj.1 e).2.symm⟩]
          · rw [decide_eq_false e, decide_eq_false (fun h => e (hinj.2 ⟨rfl, h.2.symm⟩))]
        rw [hD2] at HSm2
        rw [← hD] at HBY
        clear hR2 hinj hD hD2
        cases D
        all_goals (
          go_upto_region 23 with (first
            | (go_at_call 8
               refine (HE3.out _ H12.out.st).mono ?_
               rintro e w13 ⟨hb13, g13, rfl, ho13, hg13⟩
               have H13 := hid (And.intro (H12.out.bx.below hb13) (And.intro (blk_of hb13 H12.out.ow (lt_of H12.out.ow)) (And.intro ho13 (And.intro (H12.out.st.below hb13) (blk_of hb13 H12.out.rq (lt_of H12.out.rq))))))
               obtain ⟨p0, p1, -⟩ := vfacts2 H13.out.1.r4
               obtain ⟨r0, r1, -⟩ := vfacts2 H13.out.2.2.2.2
               clear hb13 ho13 hg13))
          have HSB := hid (And.intro (own_sl (w := w13.drew) H13.out.2.1 (by omega)) (own_sl (w := w13.drew) H13.out.2.2.1 (by omega)))
          go_region_held (fun wx => wx.cell? ⟨q, 0, none⟩ = some (.int .i64 f) ∧ wx.cell? ⟨q, 1, none⟩ = some (.slice (some ⟨tb, 0, none⟩) ts.length c) ∧ wx.cell? ⟨w.heap.size, 0, none⟩ = some (.int .i64 f) ∧ wx.cell? ⟨w.heap.size, 1, none⟩ = some (.slice ao ts.length cap)) (go_keep) (first
            | (go_at_call 13
               refine (HBY.out g13 w13.drew HSB.out.1 HSB.out.2).mono ?_
               rintro e w14 ⟨hd14, rfl⟩
               have hb14 := below_on (below_drew w13) hd14.below
               have H14 := hid (And.intro (H13.out.1.below hb14) (And.intro (H13.out.2.2.2.1.below hb14) (blk_of hb14 H13.out.2.2.2.2 (lt_of H13.out.2.2.2.2))))
               obtain ⟨p0, p1, -⟩ := vfacts2 H14.out.1.r4
               obtain ⟨r0, r1, -⟩ := vfacts2 H14.out.2.2
               clear hd14 hb14)
            | (go_at_call 11
               refine (HSm2.out w14 _ _ H14.out.2.1 (HTS.out.below H14.out.1.hb)).mono ?_
               rintro e w15 ⟨rfl, hb15⟩
               have H15 := hid (And.intro (H14.out.1.below hb15) (blk_of hb15 H14.out.2.2 (lt_of H14.out.2.2)))
               obtain ⟨p0, p1, -⟩ := vfacts2 H15.out.1.r4
               obtain ⟨r0, r1, -⟩ := vfacts2 H15.out.2
               clear hb15)
            | (go_at_call 9
               refine (known_any w15).mono ?_
               rintro e w20 ⟨rfl, hb20⟩
               have H20 := hid (And.intro (H15.out.1.below hb20) (blk_of hb20 H15.out.2 (lt_of H15.out.2)))
               obtain ⟨p0, p1, -⟩ := vfacts2 H20.out.1.r4
               obtain ⟨r0, r1, -⟩ := vfacts2 H20.out.2
               clear hb20))
          go_wp2
          go_ret
          exact ⟨rfl, H20.out.1.hb⟩)
  · as_aux_lemma =>
      obtain ⟨cN, hwr, hcN⟩ : ∃ c : Nat, i.tmod ts.length = c ∧ c < ts.length := by
        have := HTB.out
        exact ⟨(i.tmod ts.length).toNat, by omega, by omega⟩
      have HWR := hid hwr
      clear hwr
      go_upto_region 21 with fail
      rw [HWR.out]
      clear hneg
      obtain ⟨u, hu⟩ : ∃ u, ts[cN]? = some u := ⟨_, List.getElem?_eq_getElem hcN⟩
      obtain ⟨z, hz, _, hcz⟩ := H11.out.tn.get hu
      obtain ⟨d0, d1, d2, d3, d4, d5⟩ := hcz
      obtain ⟨r0, r1, -⟩ := vfacts2 H11.out.rq
      obtain ⟨s0, s1, s2, s3, s4, s5, -⟩ := vfacts6 H11.out.bx.r5
      have vz : ∀ o, W11.frozen? ⟨tb, o, none⟩ = false := fun o => by obtain ⟨cs, hcs⟩ := H11.out.tn.bk; simp [World.frozen?, hcs]
      have hcN' : (cN : Int) < (ts.length : Int) := by omega
      have hccN : (ts.length : Int) ≤ (c : Int) := by have := H11.out.tn.hc; omega
      clear hu hz
      go_upto_region 22 with fail
      refine cutG (fun W => Bq w W f (.slice ao ts.length cap) ⟨t, a1, c1, a2, c2⟩ g4 l q (.slice (some ⟨tb, 0, none⟩) ts.length c) (ts.set cN t)) (H11.out.set HX.out hcN) ?_
      intro W12 H12
      have H12 := hid H12
      have HE3 := hid (fun W (h : TsAt 0 W (.slice (some ⟨tb, 0, none⟩) ts.length c) (ts.set cN t)) => bencode_any 0 f _ (ts.set cN t) W h (set_all (sma_L HSA.out) (sma_L HSX.out t (by simp))) (by rw [List.length_set]; omega) (set_all HO.out HX.out.2.2))
      clear d0 d1 d2 d3 d4 d5 r0 r1 s0 s1 s2 s3 s4 s5 vz
      obtain ⟨p0, p1, -⟩ := vfacts2 H12.out.bx.r4
      obtain ⟨r0, r1, -⟩ := vfacts2 H12.out.rq
      cases hR2 : batE f (ts.set cN t) with
      | error E2 =>
        have hE2 : E2 ≠ 0 := batE_err _ _ _ hR2
        have he2 : (E2 == 0) = false := by simpa using hE2
        rw [hR2] at HE3
        unfold BEnc at HE3
        dsimp only at HE3
        clear hR2 hE2
        go_upto_region 23 with (first
          | (go_at_call 8
             refine (HE3.out _ H12.out.st).mono ?_
             rintro e w13 ⟨hb13, rfl⟩
             have H13 := hid (below_on H12.out.bx.hb hb13)
             clear hb13))
        refine reg23 "outright.go:41" _ _ E2 he2 (by simp) rfl _ (fun b9 w20 hdf hv9 hb20 => ?_)
        rename_i hK9
        refine hK9 b9 w20 (wp_ret ?_)
        exact bodyPost_ret (by rw [results_tmp rfl, hv9]) hdf ⟨rfl, below_on H13.out hb20⟩
      | ok n =>
        have hinj := batE_inj HOK.out hR2 HO.out (set_all HO.out HX.out.2.2)
        have hln := (batE_ok hR2).2.1
        rw [← (batE_ok hR2).2.2] at hln
        rw [hR2] at HE3
        unfold BEnc at HE3
        dsimp only at HE3
        have HSm2 := hid (fun W S1 S2 h1 h2 => bsame_any 0 0 f S1 (ts.set cN t) f S2 ts W h1 h2 (set_all (sma_L HSA.out) (sma_L HSX.out t (by simp))) (by rw [List.length_set]; omega))
        have HBY := hid (fun g W ha hb => bytes_any (.slice (some ⟨g4, 0, none⟩) l.length l.length) (.slice (some ⟨g, 0, none⟩) n.length n.length) l n W ha hb (by omega))
        obtain ⟨D, hD⟩ : ∃ D, D = decide (l = n) := ⟨_, rfl⟩
        have hD2 : decide (f = f ∧ ts.set cN t = ts) = D := by
          rw [hD]
          by_cases e : l = n
          · rw [decide_eq_true e, decide_eq_true ⟨rfl, (hinj.1 e).2.symm⟩]
          · rw [decide_eq_false e, decide_eq_false (fun h => e (hinj.2 ⟨rfl, h.2.symm⟩))]
        rw [hD2] at HSm2
        rw [← hD] at HBY
        clear hR2 hinj hD hD2
        cases D
        all_goals (
          go_upto_region 23 with (first
            | (go_at_call 8
               refine (HE3.out _ H12.out.st).mono ?_
               rintro e w13 ⟨hb13, g13, rfl, ho13, hg13⟩
               have H13 := hid (And.intro (H12.out.bx.below hb13) (And.intro (blk_of hb13 H12.out.ow (lt_of H12.out.ow)) (And.intro ho13 (And.intro (H12.out.st.below hb13) (blk_of hb13 H12.out.rq (lt_of H12.out.rq))))))
               obtain ⟨p0, p1, -⟩ := vfacts2 H13.out.1.r4
               obtain ⟨r0, r1, -⟩ := vfacts2 H13.out.2.2.2.2
               clear hb13 ho13 hg13))
          have HSB := hid (And.intro (own_sl (w := w13.drew) H13.out.2.1 (by omega)) (own_sl (w := w13.drew) H13.out.2.2.1 (by omega)))
          go_region_held (fun wx => wx.cell? ⟨q, 0, none⟩ = some (.int .i64 f) ∧ wx.cell? ⟨q, 1, none⟩ = some (.slice (some ⟨tb, 0, none⟩) ts.length c) ∧ wx.cell? ⟨w.heap.size, 0, none⟩ = some (.int .i64 f) ∧ wx.cell? ⟨w.heap.size, 1, none⟩ = some (.slice ao ts.length cap)) (go_keep) (first
            | (go_at_call 13
               refine (HBY.out g13 w13.drew HSB.out.1 HSB.out.2).mono ?_
               rintro e w14 ⟨hd14, rfl⟩
               have hb14 := below_on (below_drew w13) hd14.below
               have H14 := hid (And.intro (H13.out.1.below hb14) (And.intro (H13.out.2.2.2.1.below hb14) (blk_of hb14 H13.out.2.2.2.2 (lt_of H13.out.2.2.2.2))))
               obtain ⟨p0, p1, -⟩ := vfacts2 H14.out.1.r4
               obtain ⟨r0, r1, -⟩ := vfacts2 H14.out.2.2
               clear hd14 hb14)
            | (go_at_call 11
               refine (HSm2.out w14 _ _ H14.out.2.1 (HTS.out.below H14.out.1.hb)).mono ?_
               rintro e w15 ⟨rfl, hb15⟩
               have H15 := hid (And.intro (H14.out.1.below hb15) (blk_of hb15 H14.out.2.2 (lt_of H14.out.2.2)))
               obtain ⟨p0, p1, -⟩ := vfacts2 H15.out.1.r4
               obtain ⟨r0, r1, -⟩ := vfacts2 H15.out.2
               clear hb15)
            | (go_at_call 9
               refine (known_any w15).mono ?_
               rintro e w20 ⟨rfl, hb20⟩
               have H20 := hid (And.intro (H15.out.1.below hb20) (blk_of hb20 H15.out.2 (lt_of H15.out.2)))
               obtain ⟨p0, p1, -⟩ := vfacts2 H20.out.1.r4
               obtain ⟨r0, r1, -⟩ := vfacts2 H20.out.2
               clear hb20))
          go_wp2
          go_ret
          exact ⟨rfl, H20.out.1.hb⟩)

end Go.Proofs.Ytdnlfacfleemeaa

namespace Go.Proofs.Ytdnlfacfleemeaa
open Go.RowKit Go.WideShapes Go.ChangeAt Go.ChangeShapes

def Tx2R (W : World) (y : Tx2) : Prop := Rf W 8 y.S1 y.t.xs.length (y.t.xs.flatMap Ins.cells) ∧ Rf W 3 y.S2 y.t.vs.length (y.t.vs.flatMap Vd.cells) ∧ TxOk y.t

set_option maxRecDepth 100000 in
theorem txR_of_trod {H : Type} {enc : TypeId × Value → H} {W : World} {base : Nat} {held : Bool} {fuel : Nat} {cs : List Value} {x : DataW H × List MemPlace}
    (h : DataW.trod enc Try.prog W base (fun _ => true) held fuel 30 cs = some x) : ∃ y : Tx2, Tx2R W y ∧ cs = y.cells := by
  obtain ⟨xs, n, _, rfl, hl, hlen, hf⟩ := DataW.trod_struct Try.underlying30 h
  rw [Try.cells30] at hl
  match cs, hl, xs, hlen with
  | [c0, c1, c2, c3, c4, c5], _, [y0, y1, y2, y3], _ =>
    have f0 : DataW.trod enc Try.prog W base (fun _ => true) held n 3 (([c0, c1, c2, c3, c4, c5].drop 0).take (Try.prog.cellsOf 3)) = some y0 := hf 0 _ rfl
    have f1 : DataW.trod enc Try.prog W base (fun _ => true) held n 27 (([c0, c1, c2, c3, c4, c5].drop 1).take (Try.prog.cellsOf 27)) = some y1 := hf 1 _ rfl
    have f2 : DataW.trod enc Try.prog W base (fun _ => true) held n 9 (([c0, c1, c2, c3, c4, c5].drop 4).take (Try.prog.cellsOf 9)) = some y2 := hf 2 _ rfl
    have f3 : DataW.trod enc Try.prog W base (fun _ => true) held n 28 (([c0, c1, c2, c3, c4, c5].drop 5).take (Try.prog.cellsOf 28)) = some y3 := hf 3 _ rfl
    rw [Try.cells3] at f0
    rw [Try.cells27] at f1
    rw [Try.cells9] at f2
    rw [Try.cells28] at f3
    obtain ⟨a0, e0, _, _⟩ := DataW.trod_int Try.underlying3 (x := y0) (by simpa using f0)
    obtain ⟨s2, e2, _, _⟩ := DataW.trod_string Try.underlying9 (x := y2) (by simpa using f2)
    obtain ⟨S2, vs, e3, hR3, hO3⟩ := rf_of_trod Vd.cells VdOk 3 vd_cells vd_one Try.underlying28 Try.cells50 (fun _ _ _ h => vd_of_trod h) f3
    obtain ⟨zs, n1, _, _, hl1, hlen1, hf1⟩ := DataW.trod_struct Try.underlying27 f1
    match zs, hlen1 with
    | [z0, z1, z2], _ =>
      have g0 : DataW.trod enc Try.prog W base (fun _ => true) held n1 9 (([c1, c2, c3].drop 0).take (Try.prog.cellsOf 9)) = some z0 := hf1 0 _ rfl
      have g1 : DataW.trod enc Try.prog W base (fun _ => true) held n1 3 (([c1, c2, c3].drop 1).take (Try.prog.cellsOf 3)) = some z1 := hf1 1 _ rfl
      have g2 : DataW.trod enc Try.prog W base (fun _ => true) held n1 25 (([c1, c2, c3].drop 2).take (Try.prog.cellsOf 25)) = some z2 := hf1 2 _ rfl
      rw [Try.cells9] at g0
      rw [Try.cells3] at g1
      rw [Try.cells25] at g2
      obtain ⟨pn, e10, _, _⟩ := DataW.trod_string Try.underlying9 (x := z0) (by simpa using g0)
      obtain ⟨pa, e11, _, _⟩ := DataW.trod_int Try.underlying3 (x := z1) (by simpa using g1)
      obtain ⟨S1, ys, e12, hR1, hO1⟩ := rf_of_trod Ins.cells InsOk 8 ins_cells ins_one Try.underlying25 Try.cells52 (fun _ _ _ h => ins_of_trod h) g2
      simp at e0 e2 e3 e10 e11 e12
      subst e0 e2 e3 e10 e11 e12
      obtain ⟨b1, d1, rfl, _⟩ := hR1.shape
      obtain ⟨b2, d2, rfl, _⟩ := hR3.shape
      exact ⟨⟨⟨a0, pn, pa, ys, s2, vs⟩, b1, d1, b2, d2⟩, ⟨hR1, hR3, ⟨hO1, hO3⟩⟩, rfl⟩

set_option maxRecDepth 100000 in
/-- A batch as an argument. -/
theorem batR_of_trod {H : Type} {enc : TypeId × Value → H} {W : World} {base b2 : Nat} {held : Bool} {v : Value} {d : DataW H} {p : List MemPlace} (hv : Value.okWide Try.prog W .any b2 24 v)
    (h : DataW.Trod enc Try.prog W base (fun _ => true) held 24 v d p) : ∃ (f : Int) (S : Value) (ys : List Tx2), v = .agg #[.int .i64 f, S] ∧ BatR W S ys := by
  obtain ⟨⟨cs⟩, rfl, _⟩ := okWide_struct Try.underlying24 hv
  obtain ⟨fuel, hf0⟩ := h
  have hf0 : DataW.trod enc Try.prog W base (fun _ => true) held fuel 24 cs = some (d, p) := by simpa [Value.cells] using hf0
  obtain ⟨xs, n, _, hd, hl, hlen, hf⟩ := DataW.trod_struct Try.underlying24 hf0
  rw [Try.cells24] at hl
  match cs, hl, xs, hlen with
  | [c0, c1], _, [y0, y1], _ =>
    have f0 : DataW.trod enc Try.prog W base (fun _ => true) held n 3 (([c0, c1].drop 0).take (Try.prog.cellsOf 3)) = some y0 := hf 0 _ rfl
    have f1 : DataW.trod enc Try.prog W base (fun _ => true) held n 22 (([c0, c1].drop 1).take (Try.prog.cellsOf 22)) = some y1 := hf 1 _ rfl
    rw [Try.cells3] at f0
    rw [Try.cells22] at f1
    obtain ⟨a0, e0, _, _⟩ := DataW.trod_int Try.underlying3 (x := y0) (by simpa using f0)
    obtain ⟨S, ys, e1, hR, hO⟩ := rf_of_trod Tx2.cells (Tx2R W) 6 tx2_cells tx2_one Try.underlying22 Try.cells30 (fun _ _ _ h => txR_of_trod h) f1
    simp at e0 e1
    subst e0 e1
    exact ⟨a0, c1, ys, rfl, hR, hO⟩

theorem back_any (f : Int) (S : Value) (ys : List Tx2) (x : Tx2) (i fi : Int) (w : World) (h : BatR w S ys) (hx : Tx2Ok w x) :
    Calls Try.prog 3 #[.agg #[.int .i64 f, S], txv x.t x.S1 x.S2, .int .i64 i, .int .i64 fi] w fun e w' => e = .returned (.bool true) ∧ Below w.heap.size w w' := by
  by_cases hs : Sma (ys.map Tx2.t) ∧ Sma [x.t]
  · obtain ⟨s1, s2⟩ := hs
    cases hR : batE f (ys.map Tx2.t) with
    | error E => exact back_no f S ys x i fi w h hx s1 s2 (fun l e => by rw [hR] at e; cases e)
    | ok l =>
      have hE := (batE_ok hR).1
      cases hR1 : batE fi (ys.map Tx2.t) with
      | error E1 => exact back_e f S ys x i fi w h hx s1 s2 hE l hR E1 hR1
      | ok m =>
        by_cases hm : l = m
        · exact back_eq f S ys x i fi w h hx s1 s2 hE l hR (by rw [hR1, hm])
        · exact back_ne f S ys x i fi w h hx s1 s2 hE l hR m hR1 hm
  · exact back_long f S ys x i fi w h hx hs

end Go.Proofs.Ytdnlfacfleemeaa

namespace Go.Proofs.Ytdnlfacfleemeaa
open Go.ChangeShapes Go.WideShapes Go.ChangeAt Go.RowKit

theorem Try.own : ownKnob Try.prog.godebug = none := by kernel_rfl
theorem Try.laidOut : laidOutB Try.prog = true := by kernel_rfl

set_option maxRecDepth 100000 in
theorem back_lifted (os : Os) (started : os.Started) (H : Type) (enc : TypeId × Value → H) :
    ReturnsInHanded {} Try.checked os 3 .any (Rows.batchBackSpec.pre6 enc Try.prog Try.f3 Rows.batchBackRow.domain false) (Rows.batchBackSpec.post enc Try.prog Try.f3 false true false false) := by
  refine returnsInHanded_of_change (C := Try.checked) Try.own started (by kernel_rfl) Try.func3
    (ChangeSpec.witness6 (enc := enc) (C := Try.checked) false ⟨#[], #[.agg #[.int .i64 0, .slice none 0 0], .agg #[.int .i64 0, .string .empty, .int .i64 0, .slice none 0 0, .string .empty, .slice none 0 0], .int .i64 0, .int .i64 0], []⟩ 8 (by kernel_rfl) (by kernel_rfl) (by kernel_rfl) (by kernel_rfl)) ?_
  intro W base args ds gs before hval0 hW hcnd _
  have hval : ∀ (j : Nat) t v, Try.f3.params[j]? = some t → args[j]? = some v → Value.okWide Try.prog W .any base t v := hval0
  have hW' := hW
  obtain ⟨p, q, hA0, hV, rfl, hfz, hnd⟩ := hW
  have hA : DataW.TrodAll enc Try.prog W 0 (fun _ => true) true Try.f3.params.toList args.toList ds p := hA0
  rw [Try.params3] at hA hval
  obtain ⟨v0, vs0, d0, ds0, p0, q0, hargs, rfl, rfl, h0, r0⟩ := trodAll_cons hA
  obtain ⟨v1, vs1, d1, ds1, p1, q1, rfl, rfl, rfl, h1, r1⟩ := trodAll_cons r0
  obtain ⟨v2, vs2, d2, ds2, p2, q2, rfl, rfl, rfl, h2, r2⟩ := trodAll_cons r1
  obtain ⟨v3, vs3, d3, ds3, p3, q3, rfl, rfl, rfl, h3, r3⟩ := trodAll_cons r2
  obtain ⟨rfl, rfl, rfl⟩ := trodAll_nil r3
  obtain rfl : args = #[v0, v1, v2, v3] := by cases args; simp_all
  obtain ⟨rfl, rfl⟩ := trodVars_none hV
  have k0 := h0
  have k1 := h1
  have lt0 : ∀ x ∈ p0, x.block < W.heap.size := by obtain ⟨m, hm⟩ := k0; exact DataW.trod_lt m _ _ _ hm
  have lt1 : ∀ x ∈ p1, x.block < W.heap.size := by obtain ⟨m, hm⟩ := k1; exact DataW.trod_lt m _ _ _ hm
  obtain ⟨f, S, ys, rfl, hB⟩ := batR_of_trod (hval 0 24 v0 rfl rfl) h0
  obtain ⟨x, rfl, hx⟩ := txn_of_trod (hval 1 30 v1 rfl rfl) h1
  obtain ⟨a2, rfl, rfl, rfl, w2⟩ := open_int Try.underlying3 (hval 2 3 v2 rfl rfl) h2
  obtain ⟨a3, rfl, rfl, rfl, w3⟩ := open_int Try.underlying3 (hval 3 3 v3 rfl rfl) h3
  clear hA0 hval0
  refine (back_any f S ys x a2 a3 W hB hx).mono fun e W' ⟨he, bel⟩ => ?_
  subst he
  exact ⟨_, rfl, _, _, _, [], _, [], hW', trodAll_mk1 (shut_bool Try.underlying4 _), (trodAll_cons_mk (Below.trod Try.laidOut (by kernel_rfl) (of_decide_eq_true (by kernel_rfl)) k0 bel lt0) (trodAll_cons_mk (Below.trod Try.laidOut (by kernel_rfl) (of_decide_eq_true (by kernel_rfl)) k1 bel lt1) (trodAll_cons_mk (shut_int Try.underlying3 w2) (trodAll_cons_mk (shut_int Try.underlying3 w3) trodAll_mk0)))), rfl, bel.frame _, fun h => by cases h⟩

theorem batchBack_holds : Rows.BatchBackSaid :=
  OpenClaim.holds_of_wide 3 Try.f3 rfl rfl rfl rfl rfl rfl rfl ⟨rfl, rfl, rfl, rfl, rfl⟩ rfl rfl rfl rfl rfl (by kernel_rfl) Try.func3 (by kernel_rfl)
    (of_decide_eq_true (by kernel_rfl)) (by unfold Func.isWrapper; first | (rw [if_pos (by decide +kernel)]; kernel_rfl) | (rw [if_neg (by decide +kernel)]; exact ⟨rfl, rfl⟩))
    (fun os started H enc _ => back_lifted os started H enc)

#print axioms batchBack_holds
end Go.Proofs.Ytdnlfacfleemeaa
