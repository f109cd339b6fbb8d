import Derived.Test.YtdnlfacfleemeaaGreatK40
import Derived.Deep.AppendSrc
import Derived.Lib.AppendStr
namespace Go.Proofs.YtdnlfacfleemeaaGreat
open Go.RowKit Go.Lib

def decR : Except Int (Int × List Txd) → Except Int (Int × List Txd)
  | .error E => .error E
  | .ok (f, ts) => if batChk f ts = 0 then .ok (f, ts) else .error (batChk f ts)

theorem decBat_R (bs : List Int) (hl : bs.length ≤ 65536) : decBat bs = decR (tkBat bs) := by
  rw [decBat, if_pos hl]
  cases tkBat bs with
  | error E => rfl
  | ok r => rfl

set_option maxRecDepth 100000 in
set_option maxHeartbeats 16000000 in
theorem rbdec_ok (ao : Option Addr) (cc : Nat) (bs : List Int) (w : World) (h : Sl w (.slice ao bs.length cc) bs) (ho : Oct bs) (hl : bs.length ≤ 65536) :
    Calls Tryz.prog 16 #[.slice ao bs.length cc] w (RB w (decBat bs)) := by
  have HS := hid h
  have b1 := takeZ_le 1 0 bs 0 0 ho (Nat.zero_le _)
  obtain ⟨⟨⟨f, us1⟩, a1, e1⟩, hz1⟩ : ∃ z, takeZ 1 0 bs 0 0 = z := ⟨_, rfl⟩
  rw [hz1] at b1
  have b2 := takeZ_le 1 0 bs a1 e1 ho b1
  have c2 := takeZ_bd 1 0 bs a1 e1 ho
  obtain ⟨⟨⟨N, us2⟩, a2, e2⟩, hz2⟩ : ∃ z, takeZ 1 0 bs a1 e1 = z := ⟨_, rfl⟩
  rw [hz2] at b2 c2
  dsimp only at b1 b2 c2
  have hN0 : 0 ≤ N := c2.1
  obtain ⟨R, hR⟩ : ∃ R, R = decBat bs := ⟨_, rfl⟩
  rw [← hR]
  have HR : Hid (R = decR (tkBat bs)) := hid (by rw [hR, decBat_R bs hl])
  have HK := hid (tkBat_letters bs f us1 a1 e1 N us2 a2 e2 hz1 hz2)
  have HZ := hid (And.intro hz1 hz2)
  have HOC := hid ho
  have hl9 : bs.length ≤ 1000000000 := by omega
  have hl' : decide ((65536 : Int) < (bs.length : Int)) = false := by simp; omega
  clear h hz1 hz2 c2 hR
  go_enter Tryz.func16, Tryz.ntmps16
  go_upto_region 6 with (first
    | (go_at_call 29
       refine (rread_any ao bs.length cc _).mono ?_
       rintro e w1 ⟨rfl, hb1⟩
       have H1 := hid (rd4_start (.slice ao bs.length cc) hb1)
       clear hb1))
  refine cutG (fun W => Rd4 w W (.slice ao bs.length cc) 0 0 0 0 (.slice none 0 0) w1.heap.size (w1.heap.size + 1)) H1.out ?_
  intro W1 HH
  have H2 := hid HH
  clear H1 HH hl'
  generalize w1.heap.size + 1 = q at H2 ⊢
  generalize w1.heap.size = r at H2 ⊢
  obtain ⟨p0, p1, p2, p3, pz⟩ := vfacts4 H2.out.rr
  obtain ⟨q0, q1, qz⟩ := vfacts2 H2.out.rb
  have lt1 := H2.out.lt
  have n1 : r ≠ q := by omega
  have n2 : q ≠ r := by omega
  go_upto_region 7 with (first
    | (go_at_call 30
       refine (rtakeNum_any (.slice ao bs.length cc) bs 0 0 0 _ (HS.out.below H2.out.hb) HOC.out hl9 (Nat.zero_le _) (fun h => absurd rfl h)).mono ?_
       rw [HZ.out.1]
       rintro e w2 ⟨st2, rfl, hst2, hb2⟩
       dsimp only at hst2 ⊢
       have HST2 := hid hst2
       have H3 := hid (H2.out.below hb2)
       clear p0 p1 p2 p3 pz q0 q1 qz
       obtain ⟨p0, p1, p2, p3, pz⟩ := vfacts4 H3.out.rr
       obtain ⟨q0, q1, qz⟩ := vfacts2 H3.out.rb
       have k1 := lt_of H3.out.rb
       have k2 := lt_of H3.out.rr
       clear hb2 hst2))
  refine cutG (fun W => Rd4 w W (.slice ao bs.length cc) a1 e1 st2 f (.slice none 0 0) r q) ((H3.out.keptq (bo_set0 H3.out.rb f).2 (bo_set0 H3.out.rb f).1).reader (.slice ao bs.length cc) a1 e1 st2) ?_
  intro W2 HH
  have H4 := hid HH
  clear HH H3 H2 p0 p1 p2 p3 pz q0 q1 qz k1 k2
  obtain ⟨p0, p1, p2, p3, pz⟩ := vfacts4 H4.out.rr
  go_upto_region 8 with (first
    | (go_at_call 30
       refine (rtakeNum_any (.slice ao bs.length cc) bs a1 e1 st2 _ (HS.out.below H4.out.hb) HOC.out hl9 b1 HST2.out).mono ?_
       rw [HZ.out.2]
       rintro e w3 ⟨st3, rfl, -, hb3⟩
       dsimp only
       have H5 := hid (H4.out.below hb3)
       clear p0 p1 p2 p3 pz
       obtain ⟨p0, p1, p2, p3, pz⟩ := vfacts4 H5.out.rr
       have k2 := lt_of H5.out.rr
       clear hb3))
  refine cutG (fun W => Rd4 w W (.slice ao bs.length cc) a2 e2 st3 f (.slice none 0 0) r q) (H5.out.reader (.slice ao bs.length cc) a2 e2 st3) ?_
  intro W3 HW
  have HW := hid HW
  clear H5 H4 p0 p1 p2 p3 pz k2
  obtain ⟨p0, p1, p2, p3, pz⟩ := vfacts4 HW.out.rr
  obtain ⟨z0, z1, zz⟩ := vfacts2 HW.out.res
  have n3 : w.heap.size ≠ r := by omega
  have n4 : r ≠ w.heap.size := by omega
  by_cases he2 : e2 = 0
  · subst he2
    by_cases hN : N ≤ 64
    · obtain ⟨M, rfl⟩ : ∃ M : Nat, N = M := ⟨N.toNat, by omega⟩
      have HM : Hid (tkBat bs = tkBEnd bs f (tkTs bs M a2)) := hid (by rw [HK.out, if_pos rfl, if_pos hN]; rfl)
      have hM : M ≤ 64 := by omega
      have HL0 : Hid (Rd5 w W3 (.slice ao bs.length cc) a2 0 st3 f (.slice none 0 0) r q []) := hid ⟨HW.out, World.ownsRow_nil _ _ _ _, fun z hz => by simp at hz⟩
      have hd64 : decide ((64 : Int) < (M : Int)) = false := by simp; omega
      clear HK hN0 hN HW
      go_wp2
      clear hd64
      go_loopw [7] (fun ix wr => ∃ (n a : Nat) (st : Int) (zs : List Tx2) (ao5 : Option Addr) (c5 : Nat), n ≤ M ∧ ix = .int .i64 n ∧ a ≤ bs.length ∧ zs.length = n ∧ Hid (preT (zs.map Tx2.t) (tkTs bs (M - n) a) = tkTs bs M a2) ∧ Hid (Rd5 w wr (.slice ao bs.length cc) a 0 st f (.slice ao5 n c5) r q zs)) (fun ix _ => M - (intOf ix).toNat)
      case atStart => exact ⟨0, a2, st3, [], none, 0, Nat.zero_le _, rfl, b2, rfl, hid (by rw [Nat.sub_zero]; cases tkTs bs M a2 with
        | error E => rfl
        | ok x => rfl), HL0⟩
      clear HL0 p0 p1 p2 p3 pz z0 z1 zz
      obtain ⟨n, a, st, zs, ao5, c5, hn, rfl, ha, hzs, HPR, hT⟩ := hrel
      obtain ⟨p0, p1, p2, p3, pz⟩ := vfacts4 hT.out.cs.rr
      by_cases hlt : n < M
      · have hlt' : (n : Int) < (M : Int) := by omega
        have HTK := hid (fun W hW => rtak_any ao cc bs a st W hW HOC.out hl9 ha)
        have HMN : Hid (M - n = (M - (n + 1)) + 1) := hid (by omega)
        unfold TTPost at HTK
        cases hX : tkTx bs a with
        | error E0 =>
          rw [hX] at HTK
          have HP : Hid (R = .error E0) := hid (by
            rw [HR.out, HM.out, ← HPR.out, HMN.out, preT_no bs _ a _ E0 hX]
            rfl)
          have HNE := hid (tkTx_err bs a E0 hX)
          clear hX HR HM HPR
          go_upto_region 16 with (first
            | (go_at_call 31
               refine (HTK.out _ (HS.out.below hT.out.cs.hb)).mono ?_
               rintro e w5 ⟨hb5, t, s1, d1, s2, d2, p, e6, st6, E, rfl, rfl, -⟩
               have H5 := hid (hT.out.below hb5)
               clear hb5))
          refine cutG (fun W => Rd4 w W (.slice ao bs.length cc) a 0 st f (.slice ao5 n c5) r q) (H5.out.cs.below (below2 _ _ _)) ?_
          intro W6 HW
          have HW := hid HW
          clear H5 hT p0 p1 p2 p3 pz
          obtain ⟨z0, z1, zz⟩ := vfacts2 HW.out.res
          have hE2 : (E == 0) = false := by simpa using HNE.out
          have hE3 : (E != 0) = true := by simpa using HNE.out
          go_wp2
          have HF := res_fin HW.out.res HW.out.hb (.int .i64 0) (.slice none 0 0)
          refine bodyPost_ret (ret16 Tryz.results16 rfl HF.1) rfl ?_
          rw [HP.out]
          exact ⟨HF.2, rfl⟩
        | ok d =>
          obtain ⟨t, a5⟩ := d
          have hle5 : a5 ≤ bs.length := (tkTx_more bs [] HOC.out a ha t a5 hX).2
          rw [hX] at HTK
          have HX2 := hid (fun n ys => preT_ok bs n a ys t a5 hX)
          clear hX
          go_upto_region 16 with (first
            | (go_at_call 31
               refine (HTK.out _ (HS.out.below hT.out.cs.hb)).mono ?_
               rintro e w5 ⟨hb5, t', s1, d1, s2, d2, p, e6, st6, E, rfl, rfl, rfl, rfl, rfl, hel⟩
               have H5 := hid (And.intro (hT.out.below hb5) hel)
               clear hb5 hel))
          refine cutG (fun W => Rd5 w W (.slice ao bs.length cc) a 0 st f (.slice ao5 n c5) r q zs ∧ El W t' (.slice s1 t'.xs.length d1) (.slice s2 t'.vs.length d2) ∧ W.heap[w5.heap.size]? = some (txo t' (.slice s1 t'.xs.length d1) (.slice s2 t'.vs.length d2) 30) ∧ W.heap[w5.heap.size + 1]? = some (.cells #[.slice ao bs.length cc, .int .i64 p, .int .i64 0, .int .i64 st6] 74 (0, 0)) ∧ q < w5.heap.size) ⟨H5.out.1.below (below2 _ _ _), H5.out.2.below (below2 _ _ _), two1 _ _ _, two2 _ _ _, lt_of H5.out.1.cs.rb⟩ ?_
          rintro W6 ⟨H6, h7, h8, h9, hq6⟩
          have H6 := hid H6
          have H7 := hid h7
          clear H5 hT HTK p0 p1 p2 p3 pz h7
          have hq7 : q < w5.heap.size + 1 := by omega
          generalize w5.heap.size + 1 = q9 at h9 hq7 ⊢
          generalize w5.heap.size = q8 at h8 hq6 ⊢
          obtain ⟨p0, p1, p2, p3, pz⟩ := vfacts4 H6.out.cs.rr
          obtain ⟨y0, y1, y2, y3, yz⟩ := vfacts4 h9
          have n6 : r ≠ q9 := by omega
          have n7 : q9 ≠ r := by omega
          have n8 : r ≠ q8 := by omega
          have h8b : (put4 W6 r (.slice ao bs.length cc) (.int .i64 p) (.int .i64 0) (.int .i64 st6)).heap[q8]? = some (txo t' (.slice s1 t'.xs.length d1) (.slice s2 t'.vs.length d2) 30) := ((put4_kept W6 r _ _ _ _).block _ (lt_of h8) (by omega)).trans h8
          have H7b : Hid (El (put4 W6 r (.slice ao bs.length cc) (.int .i64 p) (.int .i64 0) (.int .i64 st6)) t' (.slice s1 t'.xs.length d1) (.slice s2 t'.vs.length d2)) := hid (H7.out.kept (put4_kept W6 r _ _ _ _) (fun k cur e hc he hk2 => by
            subst hk2
            rw [H6.out.cs.rr] at hc
            rcases he with rfl | rfl <;> simp at hc))
          have H8b := hid h8b
          clear h8 h8b
          go_upto_region 19 with fail
          refine cutG (fun W => Rd5 w W (.slice ao bs.length cc) p 0 st6 f (.slice ao5 n c5) r q zs ∧ El W t' (.slice s1 t'.xs.length d1) (.slice s2 t'.vs.length d2) ∧ W.heap[q8]? = some (txo t' (.slice s1 t'.xs.length d1) (.slice s2 t'.vs.length d2) 30)) ⟨H6.out.reader (.slice ao bs.length cc) p 0 st6, H7b.out, H8b.out⟩ ?_
          rintro W7 ⟨H9, h10, h11⟩
          have H9 := hid H9
          have H10 := hid h10
          clear H6 H7 H7b H8b h10 p0 p1 p2 p3 pz y0 y1 y2 y3 yz h9
          obtain ⟨x0, x1, x2, x3, x4, x5, xz⟩ := vfacts6 h11
          obtain ⟨q0, q1, qz⟩ := vfacts2 H9.out.cs.rb
          have hqb : q + 1 ≤ (W7.alloc (txo t' (.slice s1 t'.xs.length d1) (.slice s2 t'.vs.length d2) 30)).heap.size := by have := lt_of H9.out.cs.rb; simp; omega
          have HOW : Hid ((W7.alloc (txo t' (.slice s1 t'.xs.length d1) (.slice s2 t'.vs.length d2) 30)).ownsRow (q + 1) 30 6 (.slice ao5 n c5) n (zs.flatMap Tx2.cells)) := hid (by have := (H9.out.below (below1 W7 (txo t' (.slice s1 t'.xs.length d1) (.slice s2 t'.vs.length d2) 30))).ow; rwa [hzs] at this)
          clear h11
          go_wp2_with (at_builtin; go_loud (
            refine wpList_append_rf _ rfl _ _ 22 30 (.agg tCells) 6 96 rfl Tryz.underlying22 Tryz.info30z rfl (by decide) (q + 1) _ n _ rfl HOW.out _ 1 ([(⟨t', s1, d1, s2, d2⟩ : Tx2)].flatMap Tx2.cells) rfl (rft_new W7 ⟨t', s1, d1, s2, d2⟩) (by omega) (by unfold maxLen; omega) hqb ?_
            intro ao3 c3 w3 hown hgrow hat
            have H3 := hid (H9.out.app (x := ⟨t', s1, d1, s2, d2⟩) H10.out (by rw [hzs]; exact hown.out) hgrow.out)
            have H4 := hid (H9.out.grown hgrow.out)
            clear hown hgrow hat x0 x1 x2 x3 x4 x5 xz q0 q1 qz
            obtain ⟨q0, q1, qz⟩ := vfacts2 H4.out.rb))
          go_roundw
          case rel => exact ⟨n + 1, p, st6, zs ++ [⟨t', s1, d1, s2, d2⟩], ao3, c3, by omega, by go_num, hle5, by simp [hzs], hid (by rw [List.map_append, List.map_singleton, ← HX2.out, ← HMN.out]; exact HPR.out), H3⟩
          case measure => simp [intOf]; omega
      · obtain rfl : n = M := by omega
        have HTK : Hid (tkTs bs n a2 = .ok (zs.map Tx2.t, a)) := hid (by rw [← HPR.out, Nat.sub_self, tkTs, preT, List.append_nil])
        have HLL := hid (tkTs_L bs HOC.out _ _ _ _ HTK.out)
        obtain ⟨EN, hEN⟩ : ∃ EN, EN = endZ bs.length a 0 := ⟨_, rfl⟩
        have HE := hid (fun W => rend_any ao bs.length cc a 0 st W hl9 ha)
        rw [← hEN] at HE
        obtain ⟨q0, q1, qz⟩ := vfacts2 hT.out.cs.rb
        obtain ⟨z0, z1, zz⟩ := vfacts2 hT.out.cs.res
        by_cases hE0 : EN = 0
        · have HPK : Hid (tkBat bs = .ok (f, zs.map Tx2.t)) := hid (by rw [HM.out, HTK.out, tkBEnd, if_pos (by rw [← hEN]; exact hE0)])
          subst hE0
          have HCK := hid (fun W (hW : TsAt 0 W (.slice ao5 n c5) (zs.map Tx2.t)) => rbcheck_any 0 f (.slice ao5 n c5) (zs.map Tx2.t) W hW HLL.out (by rw [List.length_map]; omega))
          obtain ⟨C2, hC⟩ : ∃ C2, C2 = batChk f (zs.map Tx2.t) := ⟨_, rfl⟩
          rw [← hC] at HCK
          by_cases hC2 : C2 = 0
          · have HP : Hid (R = .ok (f, zs.map Tx2.t)) := hid (by rw [HR.out, HPK.out, decR, ← hC, if_pos hC2])
            subst hC2
            clear hEN hC HR HM HPR HPK
            go_wp2_with (first
              | (go_at_call 32
                 refine (HE.out _).mono ?_
                 rintro e w5 ⟨rfl, hb5⟩
                 have H5 := hid (hT.out.below hb5)
                 clear q0 q1 qz p0 p1 p2 p3 pz z0 z1 zz
                 obtain ⟨q0, q1, qz⟩ := vfacts2 H5.out.cs.rb
                 clear hb5)
              | (go_at_call 9
                 refine (HCK.out _ H5.out.ts).mono ?_
                 rintro e w6 ⟨rfl, hb6⟩
                 have H6 := hid (H5.out.below hb6)
                 obtain ⟨q0, q1, qz⟩ := vfacts2 H6.out.cs.rb
                 obtain ⟨z0, z1, zz⟩ := vfacts2 H6.out.cs.res
                 clear hb6))
            have HF := res_fin H6.out.cs.res H6.out.cs.hb (.int .i64 f) (.slice ao5 n c5)
            refine bodyPost_ret (ret16 Tryz.results16 rfl HF.1) rfl ?_
            rw [HP.out]
            exact ⟨HF.2, _, rfl, H6.out.fin _ _⟩
          · have HP : Hid (R = .error C2) := hid (by rw [HR.out, HPK.out, decR, ← hC, if_neg hC2])
            have hC3 : (C2 == 0) = false := by simpa using hC2
            have hC4 : (C2 != 0) = true := by simpa using hC2
            clear hEN hC hC2 HR HM HPR HPK
            go_wp2_with (first
              | (go_at_call 32
                 refine (HE.out _).mono ?_
                 rintro e w5 ⟨rfl, hb5⟩
                 have H5 := hid (hT.out.below hb5)
                 clear q0 q1 qz p0 p1 p2 p3 pz z0 z1 zz
                 obtain ⟨q0, q1, qz⟩ := vfacts2 H5.out.cs.rb
                 clear hb5)
              | (go_at_call 9
                 refine (HCK.out _ H5.out.ts).mono ?_
                 rintro e w6 ⟨rfl, hb6⟩
                 have HW := hid (H5.out.below hb6).cs
                 obtain ⟨z0, z1, zz⟩ := vfacts2 HW.out.res
                 clear hb6))
            have HF := res_fin HW.out.res HW.out.hb (.int .i64 0) (.slice none 0 0)
            refine bodyPost_ret (ret16 Tryz.results16 rfl HF.1) rfl ?_
            rw [HP.out]
            exact ⟨HF.2, rfl⟩
        · have HP : Hid (R = .error EN) := hid (by rw [HR.out, HM.out, HTK.out, tkBEnd, ← hEN, if_neg hE0]; rfl)
          have hC3 : (EN == 0) = false := by simpa using hE0
          have hC4 : (EN != 0) = true := by simpa using hE0
          clear hE0 hEN HR HM HPR
          go_wp2_with (first
            | (go_at_call 32
               refine (HE.out _).mono ?_
               rintro e w5 ⟨rfl, hb5⟩
               have HW := hid (hT.out.below hb5).cs
               clear z0 z1 zz
               obtain ⟨z0, z1, zz⟩ := vfacts2 HW.out.res
               clear hb5))
          have HF := res_fin HW.out.res HW.out.hb (.int .i64 0) (.slice none 0 0)
          refine bodyPost_ret (ret16 Tryz.results16 rfl HF.1) rfl ?_
          rw [HP.out]
          exact ⟨HF.2, rfl⟩
    · have HP : Hid (R = .error 1) := hid (by rw [HR.out, HK.out, if_pos rfl, if_neg hN]; rfl)
      have hN' : (64 : Int) < N := by omega
      clear hN HR HK
      go_wp2
      have HF := res_fin HW.out.res HW.out.hb (.int .i64 0) (.slice none 0 0)
      refine bodyPost_ret (ret16 Tryz.results16 rfl HF.1) rfl ?_
      rw [HP.out]
      exact ⟨HF.2, rfl⟩
  · have HP : Hid (R = .error e2) := hid (by rw [HR.out, HK.out, if_neg he2]; rfl)
    have he4 : (e2 == 0) = false := by simpa using he2
    have he5 : (e2 != 0) = true := by simpa using he2
    clear he2 HR HK
    go_wp2
    go_region_held (fun wx => wx.cell? ⟨r, 2, none⟩ = some (.int .i64 e2)) (first | go_keep | (simp only [dw_cellk, cs_blkk n3, p2]; done)) (fail)
    go_wp2
    have HF := res_fin HW.out.res HW.out.hb (.int .i64 0) (.slice none 0 0)
    refine bodyPost_ret (ret16 Tryz.results16 rfl HF.1) rfl ?_
    rw [HP.out]
    exact ⟨⟨HF.2.os, HF.2.tape, HF.2.output, HF.2.size, HF.2.block⟩, rfl⟩

set_option maxRecDepth 100000 in
set_option maxHeartbeats 1600000 in
theorem rbdec_long (ao : Option Addr) (cc : Nat) (bs : List Int) (w : World) (hl : ¬ bs.length ≤ 65536) :
    Calls Tryz.prog 16 #[.slice ao bs.length cc] w (RB w (decBat bs)) := by
  have hR : decBat bs = .error 4 := by rw [decBat, if_neg hl]
  rw [hR]
  have hl' : (65536 : Int) < (bs.length : Int) := by omega
  have hB := below1 w (bo 0 (.slice none 0 0))
  have hR0 := heap_alloc_new w (bo 0 (.slice none 0 0))
  have HB := hid (And.intro hR0 hB)
  obtain ⟨z0, z1, zz⟩ := vfacts2 hR0
  clear hl hR hB hR0
  go_enter Tryz.func16, Tryz.ntmps16
  go_wp2
  refine bodyPost_ret (ret16 Tryz.results16 rfl HB.out.1) rfl ?_
  exact ⟨HB.out.2, rfl⟩

/-- The document's Decode of a batch. -/
theorem rbdec_any (v : Value) (bs : List Int) (w : World) (h : Sl w v bs) (ho : Oct bs) : Calls Tryz.prog 16 #[v] w (RB w (decBat bs)) := by
  obtain ⟨ao, cc, rfl, _, _⟩ := id h
  by_cases hl : bs.length ≤ 65536
  · exact rbdec_ok ao cc bs w h ho hl
  · exact rbdec_long ao cc bs w hl

end Go.Proofs.YtdnlfacfleemeaaGreat

namespace Go.Proofs.YtdnlfacfleemeaaGreat
open Go.RowKit Go.Lib

def zerosB (l : Nat) : ByteArray := mkStr (List.replicate l 0)

theorem zerosB_size (l : Nat) : (zerosB l).size = l := by unfold zerosB; rw [mkStr_size, List.length_replicate]

theorem zerosB_cells (l : Nat) : strCells (zerosB l) = B8 (List.replicate l 0) := by
  have h : strBs (zerosB l) = List.replicate l 0 := strBs_mkStr _ (fun y hy => by
    rw [List.mem_replicate] at hy
    rw [hy.2]
    exact ⟨by decide, by decide⟩)
  rw [← h]
  simp [strCells, strBs]

theorem zeros_cells (l : Nat) : Builtin.zeroCells #[.int .u8 0] l = (strCells (zerosB l)).toArray := by
  rw [zerosB_cells]
  apply Array.ext'
  apply List.ext_getElem
  · simp [Builtin.zeroCells]
  · intro i h1 h2
    simp [Builtin.zeroCells, Nat.mod_one]

set_option maxRecDepth 100000 in
theorem append_zero_eq (w : World) (ty : TypeId) (ao : Option Addr) (n c l : Nat) (h0 : 0 < l) (hl : l ≤ 100000) (hn : n ≤ 1000000) (hfit : c < n + l → Builtin.nextslicecap (n + l) c * 1 ≤ 281474976710656) :
    (Builtin.append_ #[39, 3] ty #[.slice ao n c, .int .i64 l]).run Tryz.prog w = (Builtin.append_ #[39, 9] ty #[.slice ao n c, .string (zerosB l)]).run Tryz.prog w := by
  obtain ⟨i0, hi, hz0, hz1, hz2⟩ := info_parts Tryz.info5
  have hwr : IntKind.i64.wrap (l : Int) = l := by rw [IntKind.wrap_i64]; omega
  have hf := fun W => run_firstCells_string (P := Tryz.prog) W 1 (zerosB l)
  rw [zerosB_size] at hf
  have hzc := zeros_cells l
  have h1 : ¬ (l : Int) < 0 := by omega
  have h2 : ¬ (281474976710656 < (l : Int)) := by omega
  have h3 : l ≠ 0 := by omega
  have h4 : ¬ (9223372036854775807 < ((n : Int) + (l : Int))) := by omega
  by_cases hr : n + l ≤ c
  · simp [Builtin.append_, run_underlying Tryz.underlying39, run_underlying Tryz.underlying3, run_underlying Tryz.underlying9, sizeOf, typeInfo, zeroValue, hi, hz0, hz1, hz2, asInt, asIntOf, Builtin.lenOf, zerosB_size, hwr, hf, hzc, h1, h2, h3, hr, Value.cells]
  · have h5 : ¬ (281474976710656 < Builtin.nextslicecap (n + l) c) := by have := hfit (by omega); omega
    simp [Builtin.append_, run_underlying Tryz.underlying39, run_underlying Tryz.underlying3, run_underlying Tryz.underlying9, sizeOf, typeInfo, zeroValue, hi, hz0, hz1, hz2, asInt, asIntOf, Builtin.lenOf, zerosB_size, hwr, hf, hzc, h1, h2, h3, h4, h5, hr, Value.cells]

theorem wpList_append_zero (w : World) {ops : Array Oper} {rest : List Oper} {o : Oper} {a : Act} {Q : Exit → Act → World → Prop} (hgd : o.guard = none) (s x : Operand)
    (ho : o.op = .call { callee := .builtin .append, args := #[s, x], argTypes := #[39, 3] }) (B : Nat) (v : Value) (n : Nat) (xs : List Int) (hs : a.eval s = v) (hown : w.ownsRow B 5 1 v n (B8 xs))
    (l : Nat) (hx : a.eval x = .int .i64 l) (h0 : 0 < l) (hl : l ≤ 100000) (hn : n ≤ 1000000) (hbase : B ≤ w.heap.size)
    (h : ∀ ao c w', w'.ownsRow B 5 1 (.slice ao (n + l) c) (n + l) (B8 (xs ++ List.replicate l 0)) → w.grownBy w' v.ownBlock → wpList Tryz.prog ops Q rest (a.put o.dst (.slice ao (n + l) c)) w') : wpList Tryz.prog ops Q (o :: rest) a w := by
  obtain ⟨i0, hi, hz0, hz1, hz2⟩ := info_parts Tryz.info5
  refine wpList_plain hgd fun K hK => ?_
  obtain ⟨v', w', hr, h2, h3, _⟩ := run_append_own_string (P := Tryz.prog) w B 39 9 o.type 5 i0 Tryz.underlying39 Tryz.underlying9 hi hz0 hz1 hz2 v n (B8 xs) hown (zerosB l) (by rw [zerosB_size]; unfold maxLen; omega) (by rw [zerosB_size]; omega) hbase
  obtain ⟨av, cv, rfl⟩ := own_form hown
  rw [← append_zero_eq w o.type av n cv l h0 hl hn (fun hlt => growslice_fits (by omega) (by omega))] at hr
  rw [zerosB_size, zerosB_cells] at h2
  obtain ⟨ao, c, rfl⟩ := own_form h2
  unfold Oper.wp execOp
  simp only [ho, resolve, invoke, builtin, Sem.run_bind, Sem.run_pure, Result.andThen_ok, List.map_toArray, List.map_cons, List.map_nil, hs, hx, hr]
  exact hK _ _ (h ao c w' (by rw [B8, List.map_append]; exact h2) h3)

/-! A batch's lists beside a block of bytes. -/
theorem u8_ne {W : World} {g b o : Nat} {zs : List Int} {k : Int} (h : Own W g zs) (hc : W.cell? ⟨b, o, none⟩ = some (.int .i64 k)) : b ≠ g := by
  rintro rfl
  rw [cell_of_row W _ _ _ _ _ h] at hc
  simp at hc

theorem ts_kept {W : World} {g : Nat} {zs : List Int} {S : Value} {ts : List Txd} (h : Own W g zs) (hc : TsAt 0 W S ts) (i : Nat) (v : Value) : TsAt 0 (W.setCell ⟨g, i, none⟩ v) S ts := by
  have k := (Kept.refl (fun k => k = g) W).setCell (p := ⟨g, i, none⟩) (fun _ => rfl) v
  obtain ⟨ao, cap, h1, h2, h3⟩ := hc
  refine ⟨ao, cap, h1, h2, fun hn => ?_⟩
  obtain ⟨b, off, h4, hB, h5⟩ := h3 hn
  refine ⟨b, off, h4, hB, fun j t hj => ?_⟩
  obtain ⟨S1, S2, hx, hc1, hv1⟩ := h5 j t hj
  refine ⟨S1, S2, hx.same (k.block b hx.lt (u8_ne h hx.1)), ?_, ?_⟩
  · obtain ⟨ao, cap, h1, h2, h3⟩ := hc1
    refine ⟨ao, cap, h1, h2, fun hn => ?_⟩
    obtain ⟨b, off, h4, hB, h5⟩ := h3 hn
    exact ⟨b, off, h4, hB, fun j x hj => (h5 j x hj).same (k.block b (h5 j x hj).lt (u8_ne h (h5 j x hj).1))⟩
  · obtain ⟨ao, cap, h1, h2, h3⟩ := hv1
    refine ⟨ao, cap, h1, h2, fun hn => ?_⟩
    obtain ⟨b, off, h4, hB, h5⟩ := h3 hn
    exact ⟨b, off, h4, hB, fun j x hj => (h5 j x hj).same (k.block b (h5 j x hj).lt (u8_ne h (h5 j x hj).1))⟩

/-! What a Decode of a batch answers, in one shape. -/
def tF : Except Int (Int × List Txd) → Int
  | .ok (f, _) => f
  | .error _ => 0
def tT : Except Int (Int × List Txd) → List Txd
  | .ok (_, ts) => ts
  | .error _ => []
def tE : Except Int (Int × List Txd) → Int
  | .ok _ => 0
  | .error E => E

def UB (w : World) (f : Int) (ts : List Txd) (E : Int) (e : Ending) (w' : World) : Prop :=
  Below w.heap.size w w' ∧ ∃ (so : Option Addr) (sc : Nat), e = .returned (.tuple #[.agg #[.int .i64 f, .slice so ts.length sc], .int .i64 E]) ∧ TsAt 0 w' (.slice so ts.length sc) ts

theorem tsat_nil (w : World) : TsAt 0 w (.slice none 0 0) [] := ⟨none, 0, rfl, Nat.le_refl _, fun h => absurd rfl h⟩

theorem TsAt.zero {B : Nat} {w : World} {S : Value} {ts : List Txd} (h : TsAt B w S ts) : TsAt 0 w S ts := by
  obtain ⟨ao, cap, h1, h2, h3⟩ := h
  refine ⟨ao, cap, h1, h2, fun hn => ?_⟩
  obtain ⟨b, off, h4, hB, h5⟩ := h3 hn
  refine ⟨b, off, h4, Nat.zero_le _, fun j t hj => ?_⟩
  obtain ⟨S1, S2, hx, hc1, hv1⟩ := h5 j t hj
  exact ⟨S1, S2, hx, hc1.mono (Nat.zero_le _), hv1.mono (Nat.zero_le _)⟩

theorem bdec_u (v : Value) (bs : List Int) (w : World) (h : Sl w v bs) (ho : Oct bs) : Calls Tryz.prog 15 #[v] w (UB w (tF (decBat bs)) (tT (decBat bs)) (tE (decBat bs))) := by
  refine (bdecode_any v bs w h ho).mono ?_
  rintro e w' ⟨hb, hm⟩
  refine ⟨hb, ?_⟩
  cases hD : decBat bs with
  | error E =>
    rw [hD] at hm
    exact ⟨none, 0, hm, tsat_nil _⟩
  | ok r =>
    obtain ⟨f, ts⟩ := r
    rw [hD] at hm
    obtain ⟨S, rfl, hc⟩ := hm
    obtain ⟨so, sc, rfl⟩ := hc.form
    exact ⟨_, _, rfl, hc.zero⟩

theorem rbdec_u (v : Value) (bs : List Int) (w : World) (h : Sl w v bs) (ho : Oct bs) : Calls Tryz.prog 16 #[v] w (UB w (tF (decBat bs)) (tT (decBat bs)) (tE (decBat bs))) := by
  refine (rbdec_any v bs w h ho).mono ?_
  rintro e w' ⟨hb, hm⟩
  refine ⟨hb, ?_⟩
  cases hD : decBat bs with
  | error E =>
    rw [hD] at hm
    exact ⟨none, 0, hm, tsat_nil _⟩
  | ok r =>
    obtain ⟨f, ts⟩ := r
    rw [hD] at hm
    obtain ⟨S, rfl, hc⟩ := hm
    obtain ⟨so, sc, rfl⟩ := hc.form
    exact ⟨_, _, rfl, hc⟩

theorem tT_L (bs : List Int) (ho : Oct bs) : (∀ t ∈ tT (decBat bs), TxL t) ∧ (tT (decBat bs)).length ≤ 64 := by
  cases hD : decBat bs with
  | error E => exact ⟨fun t ht => by simp [tT] at ht, by simp [tT]⟩
  | ok r =>
    obtain ⟨f, ts⟩ := r
    have h1 := decBat_ok bs f ts hD
    exact ⟨tkBat_L bs ho f ts h1.2.1, (tkBat_bytes bs ho f ts h1.2.1).2.2⟩

theorem bsame_yes (f : Int) (ts : List Txd) (S1 S2 : Value) (w : World) (h1 : TsAt 0 w S1 ts) (h2 : TsAt 0 w S2 ts) (hL : (∀ t ∈ ts, TxL t) ∧ ts.length ≤ 64) :
    Calls Tryz.prog 17 #[.agg #[.int .i64 f, S1], .agg #[.int .i64 f, S2]] w fun e w' => e = .returned (.bool true) ∧ Below w.heap.size w w' := by
  have := bsame_any 0 0 f S1 ts f S2 ts w h1 h2 hL.1 (by omega)
  rwa [decide_eq_true ⟨rfl, rfl⟩] at this

/-- The law's list, and what is kept of one pair of answers. -/
structure Lbt (w W : World) (zs : List Int) (r1 r2 : Nat) (f : Int) (S1 S2 : Value) (ts : List Txd) : Prop where
  own : Own W w.heap.size zs
  hb : Below w.heap.size w W
  b1 : W.heap[r1]? = some (bo f S1)
  b2 : W.heap[r2]? = some (bo f S2)
  c1 : TsAt 0 W S1 ts
  c2 : TsAt 0 W S2 ts
  n1 : w.heap.size ≠ r1
  n2 : w.heap.size ≠ r2

theorem Lbt.below {w W W' : World} {zs : List Int} {r1 r2 : Nat} {f : Int} {S1 S2 : Value} {ts : List Txd} (h : Lbt w W zs r1 r2 f S1 S2 ts) (hb : Below W.heap.size W W') : Lbt w W' zs r1 r2 f S1 S2 ts :=
  ⟨own_below h.own hb, below_on h.hb hb, blk_of hb h.b1 (lt_of h.b1), blk_of hb h.b2 (lt_of h.b2), h.c1.below hb, h.c2.below hb, h.n1, h.n2⟩

theorem Lbt.set {w W : World} {zs : List Int} {r1 r2 : Nat} {f : Int} {S1 S2 : Value} {ts : List Txd} (h : Lbt w W zs r1 r2 f S1 S2 ts) (i : Nat) (x : Int) : Lbt w (W.setCell ⟨w.heap.size, i, none⟩ (.int .u8 x)) (zs.set i x) r1 r2 f S1 S2 ts := by
  have k := (Kept.refl (fun k => k = w.heap.size) W).setCell (p := ⟨w.heap.size, i, none⟩) (fun _ => rfl) (.int .u8 x)
  exact ⟨own_set h.own, h.hb.setCell (Nat.le_refl _) _, (k.block _ (lt_of h.b1) (Ne.symm h.n1)).trans h.b1, (k.block _ (lt_of h.b2) (Ne.symm h.n2)).trans h.b2, ts_kept h.own h.c1 i _, ts_kept h.own h.c2 i _, h.n1, h.n2⟩

/-- Behind the first of two answers. -/
structure Lb1 (w W : World) (zs : List Int) (r1 : Nat) (f : Int) (S1 : Value) (ts : List Txd) : Prop where
  own : Own W w.heap.size zs
  hb : Below w.heap.size w W
  b1 : W.heap[r1]? = some (bo f S1)
  c1 : TsAt 0 W S1 ts
  ne : w.heap.size ≠ r1

theorem lb1_start {w w2 w3 : World} {zs : List Int} {f : Int} {S1 : Value} {ts : List Txd} (ho : Own w2 w.heap.size zs) (h2 : Below w.heap.size w w2) (hb : Below w2.heap.size w2 w3) (hc : TsAt 0 w3 S1 ts) :
    Lb1 w (w3.alloc (bo f S1)) zs w3.heap.size f S1 ts := by
  have h3 := own_below ho hb
  have h4 := below1 w3 (bo f S1)
  exact ⟨own_below h3 h4, below_on (below_on h2 hb) h4, heap_alloc_new w3 _, hc.below h4, by have := lt_of h3; omega⟩

theorem lbt_start {w W w4 : World} {zs : List Int} {r1 : Nat} {f : Int} {S1 S2 : Value} {ts : List Txd} (h : Lb1 w W zs r1 f S1 ts) (hb : Below W.heap.size W w4) (hc : TsAt 0 w4 S2 ts) :
    Lbt w (w4.alloc (bo f S2)) zs r1 w4.heap.size f S1 S2 ts := by
  have h3 := own_below h.own hb
  have h4 := below1 w4 (bo f S2)
  have h5 := blk_of hb h.b1 (lt_of h.b1)
  exact ⟨own_below h3 h4, below_on (below_on h.hb hb) h4, blk_of h4 h5 (lt_of h5), heap_alloc_new w4 _, (h.c1.below hb).below h4, hc.below h4, h.ne, by have := lt_of h3; omega⟩

theorem fill_step {N i : Nat} {zs : List Int} (hl : zs.length = N) (hi : i < N) (h : ∀ j, j < i → zs[j]? = some 171) : ∀ j, j < i + 1 → (zs.set i 171)[j]? = some 171 := by
  intro j hj
  by_cases e : i = j
  · subst e
    rw [List.getElem?_set_self (by omega)]
  · rw [List.getElem?_set_ne e]
    exact h j (by omega)

theorem oct_set {bs : List Int} {k : Nat} {x : Int} (h : Oct bs) (hx : 0 ≤ x ∧ x < 256) : Oct (bs.set k x) := by
  intro y hy
  rcases List.mem_or_eq_of_mem_set hy with h1 | h1
  · exact h y h1
  · subst h1
    exact hx

def CpSrc (g : Nat) (ao : Option Addr) (bs : List Int) (W : World) : Prop :=
  0 < (B8 bs).length → some (⟨g, 0, none⟩ : Addr) = some ⟨g, 0, none⟩ ∧ ∃ ad, ao = some ad ∧ ∀ (j : Nat) (u : Value), (B8 bs)[j]? = some u → W.cell? (ad.add j) = some u

theorem own_spl5 {W : World} {g N : Nat} {bs : List Int} (hN : bs.length + 5 = N) (h : W.heap[g]? = some (.cells (splice (B8 (List.replicate N 171)) 0 (B8 bs)).toArray 5 (0, 0))) : Own W g (bs ++ List.replicate 5 171) := by
  unfold Own
  rw [h]
  congr 3
  have : N - bs.length = 5 := by omega
  simp [splice, List.drop_replicate, this]

theorem sl_cells {W : World} {ao : Option Addr} {cc : Nat} {bs : List Int} (h : Sl W (.slice ao bs.length cc) bs) : bs ≠ [] → ∃ b off, ao = some ⟨b, off, none⟩ ∧ ∀ (j : Nat) (x : Int), bs[j]? = some x → W.cell? ⟨b, off + j, none⟩ = some (.int .u8 x) := by
  obtain ⟨ao', cap, e, _, hx⟩ := h
  injection e with e1 _ e2
  subst e1
  exact hx

theorem sl_form {W : World} {v : Value} {bs : List Int} (h : Sl W v bs) : ∃ ao c, v = .slice ao bs.length c := by
  obtain ⟨ao, c, e, _⟩ := h
  exact ⟨ao, c, e⟩

theorem sl_owns' {W : World} {B n : Nat} {v : Value} {xs : List Int} (h : W.ownsRow B 5 1 v n (B8 xs)) : Sl W v xs := by
  have hn : xs.length = n := by
    have := h.1
    simp at this
    omega
  subst hn
  exact sl_of_owns h

end Go.Proofs.YtdnlfacfleemeaaGreat
