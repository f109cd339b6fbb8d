import Derived.Test.YtdnlfacfleemeaaGreatK34
import Derived.Test.YtdnlfacfleemeaaGreatK28
import Derived.Test.YtdnlfacfleemeaaGreatK31
import Derived.Test.YtdnlfacfleemeaaGreatK29
namespace Go.Proofs.YtdnlfacfleemeaaGreat
open Go.RowKit Go.Lib

theorem fdS_ne (op : Int) (h : 1 ≤ op ∧ op ≤ 16) : fdS op ≠ ⟨#[63]⟩ := by
  rcases op_cases op with rfl | rfl | rfl | rfl | rfl | rfl | rfl | rfl | rfl | rfl | rfl | rfl | rfl | rfl | rfl | rfl | h2
  case inr.inr.inr.inr.inr.inr.inr.inr.inr.inr.inr.inr.inr.inr.inr.inr => exact absurd h h2
  all_goals decide

set_option maxRecDepth 100000 in
set_option maxHeartbeats 8000000 in
theorem rpdecode_head (ao : Option Addr) (cc : Nat) (bs : List Int) (w : World) (h : Sl w (.slice ao bs.length cc) bs) (ho : Oct bs) (hl : bs.length ≤ 1000000000) :
    Calls Tryz.prog 62 #[.slice ao bs.length cc] w (RDPost w (decP bs)) := by
  have HS := hid h
  have b1 := takeZ_le 3 32 bs 0 0 ho (Nat.zero_le _)
  obtain ⟨⟨⟨u1, ns⟩, a1, e1⟩, hz1⟩ : ∃ z, takeZ 3 32 bs 0 0 = z := ⟨_, rfl⟩
  rw [hz1] at b1
  have b2 := takeZ_le 1 0 bs a1 e1 ho b1
  obtain ⟨⟨⟨ar, us2⟩, a2, e2⟩, hz2⟩ : ∃ z, takeZ 1 0 bs a1 e1 = z := ⟨_, rfl⟩
  rw [hz2] at b2
  have b3 := takeZ_le 1 0 bs a2 e2 ho b2
  have c3 := takeZ_bd 1 0 bs a2 e2 ho
  obtain ⟨⟨⟨N, us3⟩, a3, e3⟩, hz3⟩ : ∃ z, takeZ 1 0 bs a2 e2 = z := ⟨_, rfl⟩
  rw [hz3] at b3 c3
  dsimp only at b1 b2 b3 c3
  have HK : Hid (tkProc bs = if e3 = 0 then if N ≤ 64 then tkEnd bs ns ar (tkCode bs bs.length N.toNat a3) else .error 4 else .error e3) := hid (by
    unfold tkProc
    simp only [hz1, hz2, hz3])
  have HZ := hid (And.intro hz1 (And.intro hz2 hz3))
  have HC3 := hid c3
  clear h hz1 hz2 hz3 c3
  go_enter Tryz.func62, Tryz.ntmps62
  go_upto_region 4 with (first
    | (go_at_call 29
       refine (rread_any ao bs.length cc _).mono ?_
       rintro e w1 ⟨rfl, hb1⟩
       have H1 := hid (dcs_start (.slice ao bs.length cc) hb1)
       clear hb1))
  refine cutG (fun W => Dcs w W (.slice ao bs.length cc) 0 0 0 emp 0 (.slice none 0 0) w1.heap.size (w1.heap.size + 1)) H1.out ?_
  intro W1 HH
  have H2 := hid HH
  clear H1 HH
  generalize w1.heap.size + 1 = q at H2 ⊢
  generalize w1.heap.size = r at H2 ⊢
  obtain ⟨p0, p1, p2, p3, pz⟩ := vfacts4 H2.out.rr
  obtain ⟨q0, q1, q2, qz⟩ := vfacts H2.out.rp
  have lt1 := H2.out.lt
  have n1 : r ≠ q := by omega
  have n2 : q ≠ r := by omega
  go_upto_region 5 with (first
    | (go_at_call 61
       refine (rtakeText_any (.slice ao bs.length cc) bs 0 0 0 32 _ (HS.out.below H2.out.hb) ho hl (Nat.zero_le _) (fun h => absurd rfl h) (by omega) (by omega)).mono ?_
       rw [HZ.out.1]
       rintro e w2 ⟨st2, rfl, hst2, hb2⟩
       dsimp only at hst2 ⊢
       have HST2 := hid hst2
       have H3 := hid (H2.out.below hb2)
       clear p0 p1 p2 p3 pz q0 q1 q2 qz
       obtain ⟨p0, p1, p2, p3, pz⟩ := vfacts4 H3.out.rr
       obtain ⟨q0, q1, q2, qz⟩ := vfacts H3.out.rp
       have k1 := lt_of H3.out.rp
       have k2 := lt_of H3.out.rr
       clear hb2 hst2))
  refine cutG (fun W => Dcs w W (.slice ao bs.length cc) a1 e1 st2 (mkStr ns) 0 (.slice none 0 0) r q) ((H3.out.cell 0 (.string (mkStr ns)) (po_set0 H3.out.rp)).reader (.slice ao bs.length cc) a1 e1 st2) ?_
  intro W2 HH
  have H4 := hid HH
  clear HH H3 H2 p0 p1 p2 p3 pz q0 q1 q2 qz k1 k2
  obtain ⟨p0, p1, p2, p3, pz⟩ := vfacts4 H4.out.rr
  obtain ⟨q0, q1, q2, qz⟩ := vfacts H4.out.rp
  go_upto_region 6 with (first
    | (go_at_call 30
       refine (rtakeNum_any (.slice ao bs.length cc) bs a1 e1 st2 _ (HS.out.below H4.out.hb) ho hl b1 HST2.out).mono ?_
       rw [HZ.out.2.1]
       rintro e w3 ⟨st3, rfl, hst3, hb3⟩
       dsimp only at hst3 ⊢
       have HST3 := hid hst3
       have H5 := hid (H4.out.below hb3)
       clear p0 p1 p2 p3 pz q0 q1 q2 qz
       obtain ⟨p0, p1, p2, p3, pz⟩ := vfacts4 H5.out.rr
       obtain ⟨q0, q1, q2, qz⟩ := vfacts H5.out.rp
       have k1 := lt_of H5.out.rp
       have k2 := lt_of H5.out.rr
       clear hb3 hst3))
  refine cutG (fun W => Dcs w W (.slice ao bs.length cc) a2 e2 st3 (mkStr ns) ar (.slice none 0 0) r q) ((H5.out.cell 1 (.int .i64 ar) (po_set1 H5.out.rp)).reader (.slice ao bs.length cc) a2 e2 st3) ?_
  intro W3 HH
  have H6 := hid HH
  clear HH H5 H4 p0 p1 p2 p3 pz q0 q1 q2 qz k1 k2
  obtain ⟨p0, p1, p2, p3, pz⟩ := vfacts4 H6.out.rr
  go_upto_region 7 with (first
    | (go_at_call 30
       refine (rtakeNum_any (.slice ao bs.length cc) bs a2 e2 st3 _ (HS.out.below H6.out.hb) ho hl b2 HST3.out).mono ?_
       rw [HZ.out.2.2]
       rintro e w4 ⟨st4, rfl, -, hb4⟩
       dsimp only
       have H7 := hid (H6.out.below hb4)
       clear p0 p1 p2 p3 pz
       obtain ⟨p0, p1, p2, p3, pz⟩ := vfacts4 H7.out.rr
       have k2 := lt_of H7.out.rr
       clear hb4))
  refine cutG (fun W => Dcs w W (.slice ao bs.length cc) a3 e3 st4 (mkStr ns) ar (.slice none 0 0) r q) (H7.out.reader (.slice ao bs.length cc) a3 e3 st4) ?_
  intro W4 HH
  have H8 := hid HH
  clear HH H7 H6 p0 p1 p2 p3 pz k2
  obtain ⟨p0, p1, p2, p3, pz⟩ := vfacts4 H8.out.rr
  obtain ⟨z0, z1, z2, zz⟩ := vfacts H8.out.res
  have n3 : w.heap.size ≠ r := by omega
  have n4 : r ≠ w.heap.size := by omega
  by_cases he3 : e3 = 0
  · subst he3
    by_cases hN : N ≤ 64
    · have hN0 : 0 ≤ N := HC3.out.1
      obtain ⟨M, rfl⟩ : ∃ M : Nat, N = M := ⟨N.toNat, by omega⟩
      have HM : Hid (tkProc bs = tkEnd bs ns ar (tkCode bs bs.length M a3)) := hid (by rw [HK.out, if_pos rfl, if_pos hN]; rfl)
      have hM : M ≤ 64 := by omega
      have HL0 := hid (Dcl.mk (ys := []) H8.out (World.ownsRow_nil _ _ _ _))
      clear HK HC3 hN0 hN H8
      go_wp2
      go_loopw [7] (fun ix wr => ∃ (n a : Nat) (st : Int) (ys : List Ins) (ao5 : Option Addr) (c5 : Nat), n ≤ M ∧ ix = .int .i64 n ∧ a ≤ bs.length ∧ ys.length = n ∧ Hid (pre ys (tkCode bs bs.length (M - n) a) = tkCode bs bs.length M a3) ∧ Hid (Dcl w wr (.slice ao bs.length cc) a 0 st (mkStr ns) ar (.slice ao5 n c5) r q ys)) (fun ix _ => M - (intOf ix).toNat)
      case atStart => exact ⟨0, a3, st4, [], none, 0, Nat.zero_le _, rfl, b3, rfl, hid (by rw [Nat.sub_zero]; cases tkCode bs bs.length M a3 with
        | error E => rfl
        | ok x => rfl), HL0⟩
      clear HL0 p0 p1 p2 p3 pz z0 z1 z2 zz
      obtain ⟨n, a, st, ys, ao5, c5, hn, rfl, ha, hys, HPR, hT⟩ := hrel
      obtain ⟨p0, p1, p2, p3, pz⟩ := vfacts4 hT.out.cs.rr
      obtain ⟨z0, z1, z2, zz⟩ := vfacts hT.out.cs.res
      by_cases hlt : n < M
      · have hlt' : (n : Int) < (M : Int) := by omega
        have HTB := hid (fun W hW => rtakeByte_any (.slice ao bs.length cc) bs a 0 st W hW hl ha (fun h => absurd rfl h))
        have hbd := takeZ_bd 0 1 bs a 0 ho
        have hle := takeZ_le 0 1 bs a 0 ho ha
        obtain ⟨⟨⟨op, us⟩, a5, e5⟩, hz5⟩ : ∃ z, takeZ 0 1 bs a 0 = z := ⟨_, rfl⟩
        rw [hz5] at HTB hbd hle
        unfold RRPost at HTB
        dsimp only at HTB hle
        have hop0 : 0 ≤ op := hbd.1
        have hop1 : op < 256 := hbd.2.2.2 rfl rfl
        have HTI : Hid (tkIns bs bs.length a = if e5 = 0 then if 1 ≤ op ∧ op ≤ 16 then tkLs bs (strBs (fdS op)) (zIns op) a5 else .error 16 else .error e5) := hid (by
          unfold tkIns
          simp only [hz5]
          by_cases h5 : e5 = 0
          · rw [if_pos h5, if_pos h5]
            by_cases h6 : 1 ≤ op ∧ op ≤ 16
            · rw [if_pos h6, if_pos h6, tkLs_eq bs op a5 h6]
            · rw [if_neg h6, if_neg h6]
          · rw [if_neg h5, if_neg h5])
        have HMN : Hid (M - n = (M - (n + 1)) + 1) := hid (by omega)
        clear hbd hz5
        go_upto_region 16 with (first
          | (go_at_call 60
             refine (HTB.out _ (HS.out.below hT.out.cs.hb)).mono ?_
             rintro e w5 ⟨st5, rfl, -, hb5⟩
             have H5 := hid (hT.out.below hb5)
             clear p0 p1 p2 p3 pz
             obtain ⟨p0, p1, p2, p3, pz⟩ := vfacts4 H5.out.cs.rr
             clear hb5))
        refine cutG (fun W => Dcl w W (.slice ao bs.length cc) a5 e5 st5 (mkStr ns) ar (.slice ao5 n c5) r q ys) (H5.out.reader (.slice ao bs.length cc) a5 e5 st5) ?_
        intro W5 HH
        have H6 := hid HH
        clear HH H5 hT HTB p0 p1 p2 p3 pz z0 z1 z2 zz
        obtain ⟨p0, p1, p2, p3, pz⟩ := vfacts4 H6.out.cs.rr
        obtain ⟨z0, z1, z2, zz⟩ := vfacts H6.out.cs.res
        by_cases he5 : e5 = 0
        · subst he5
          go_upto_region 19 with fail
          refine cutG (fun W => Dcx w W (.slice ao bs.length cc) a5 0 st5 (mkStr ns) ar (.slice ao5 n c5) r q ys W5.heap.size (zIns op)) (dcx_start H6.out (zIns op)) ?_
          intro W6 HH
          have H7 := hid HH
          clear HH H6 p0 p1 p2 p3 pz z0 z1 z2 zz
          generalize W5.heap.size = rx at H7 ⊢
          obtain ⟨x0, x1, x2, x3, x4, x5, x6, x7, xz⟩ := vfacts8 H7.out.xb
          obtain ⟨z0, z1, z2, zz⟩ := vfacts H7.out.cl.cs.res
          have HF35 := hid (rfields_any op)
          by_cases hop : 1 ≤ op ∧ op ≤ 16
          · have HLO := hid (fdS_lets op hop)
            have hLs := fdS_len op
            have hLq : (fdS op).toList ≠ ([63] : List UInt8) := fun e => fdS_ne op hop (toList_inj (e.trans (by rw [Lib.toList_data])))
            have HTL : Hid (tkIns bs bs.length a = tkLs bs (strBs (fdS op)) (zIns op) a5) := hid (by rw [HTI.out, if_pos rfl, if_pos hop])
            generalize fdS op = L at HF35 HLO hLs HTL hLq
            have hq : (L.toList == ([63] : List UInt8)) = false := by simpa using hLq
            clear hop HTI hLq
            go_wp2_with (first
              | (go_at_call 74
                 refine (HF35.out _).mono ?_
                 rintro e w' ⟨rfl, e1⟩
                 rw [e1]
                 clear e1 w'))
            go_loopw [11] (fun kx wq => ∃ (m a6 : Nat) (st6 : Int) (y : Ins), m ≤ L.size ∧ kx = .int .i64 m ∧ a6 ≤ bs.length ∧ Hid (tkLs bs ((strBs L).drop m) y a6 = tkLs bs (strBs L) (zIns op) a5) ∧ Hid (Dcx w wq (.slice ao bs.length cc) a6 0 st6 (mkStr ns) ar (.slice ao5 n c5) r q ys rx y)) (fun kx _ => L.size - (intOf kx).toNat)
            case atStart => exact ⟨0, a5, st5, zIns op, Nat.zero_le _, rfl, hle, hid rfl, H7⟩
            clear H7 x0 x1 x2 x3 x4 x5 x6 x7 xz z0 z1 z2 zz
            obtain ⟨m, a6, st6, y, hm0, rfl, ha6, HTR, hQ⟩ := hrel
            obtain ⟨x0, x1, x2, x3, x4, x5, x6, x7, xz⟩ := vfacts8 hQ.out.xb
            obtain ⟨p0, p1, p2, p3, pz⟩ := vfacts4 hQ.out.cl.cs.rr
            obtain ⟨z0, z1, z2, zz⟩ := vfacts hQ.out.cl.cs.res
            have n5 : r ≠ rx := by have := hQ.out.lt; omega
            have n6 : rx ≠ r := by omega
            have n7 : rx ≠ q := by have := hQ.out.lt; omega
            have n8 : q ≠ rx := by omega
            have n9 : w.heap.size ≠ rx := by have := hQ.out.lt; omega
            by_cases hm : m < L.size
            · have hat := strBs_at L m hm
              have hdr : (strBs L).drop m = ((L[m]'hm).toNat : Int) :: (strBs L).drop (m + 1) := by
                have hml : m < (strBs L).length := by rw [strBs_len]; exact hm
                rw [List.drop_eq_getElem_cons hml]
                congr 1
                have := List.getElem?_eq_getElem hml
                rw [hat] at this
                exact (Option.some.inj this).symm
              have HTK2 := hid (fun W hW => rtaken_any ao cc bs a6 st6 y ((L[m]'hm).toNat : Int) W hW ho hl ha6 (HLO.out _ (List.mem_of_getElem? hat)))
              unfold TLPost Ins.val at HTK2
              have hR := HTR.out
              rw [hdr, tkLs] at hR
              have HR := hid hR
              have hleL := fun y2 a7 => tkL_le bs ho ((L[m]'hm).toNat : Int) y y2 a6 a7 ha6
              have HLE := hid hleL
              have HSW := hid (HS.out.below hQ.out.cl.cs.hb)
              clear hat hdr hR hleL HTR
              cases hk : tkL bs ((L[m]'hm).toNat : Int) y a6 with
              | error E' =>
                rw [hk] at HTK2 HR
                dsimp only at HTK2 HR
                have HP : Hid (decP bs = .error E') := hid (by rw [decP, HM.out, ← HPR.out, HMN.out, pre_no bs bs.length _ a ys E' (by rw [HTL.out, ← HR.out])]; rfl)
                clear hk
                have HRR := hQ.out.cl.cs.rr
                have HXB := hQ.out.xb
                go_upto_region 26 with fail
                refine wp_region_noPanic ?_
                refine reg26 _ _ _ r rx _ _ _ _ y L m hm (by simp) rfl rfl rfl rfl HRR HXB n5 _ (fun _ _ _ _ _ h => h) _ (HTK2.out _ HSW.out) ?_
                rintro e w8 ⟨hb8', y8, a8, e8, st8, E8, rfl, hE7, hE8⟩
                subst hE7
                have hb8 : Below wr.heap.size wr w8 := ⟨hb8'.os, hb8'.tape, hb8'.output, hb8'.size, hb8'.block⟩
                have hC3 : (E8 == 0) = false := by simpa using hE8
                have hC4 : (E8 != 0) = true := by simpa using hE8
                have H8 := hid (hQ.out.below hb8)
                refine ⟨ao, bs.length, cc, a8, e8, st8, y8, E8, rfl, H8.out.cl.cs.rr.trans HRR.symm, H8.out.xb.trans HXB.symm, NoPanic.normal ?_⟩
                clear x0 x1 x2 x3 x4 x5 x6 x7 xz p0 p1 p2 p3 pz z0 z1 z2 zz hb8 hb8' hE8 HRR HXB
                refine cutG (fun W => Dcx w W (.slice ao bs.length cc) a8 e8 st8 (mkStr ns) ar (.slice ao5 n c5) r q ys rx y8) (H8.out.both (.slice ao bs.length cc) a8 e8 st8 y8) ?_
                intro W9 HH
                have H9 := hid HH
                clear HH H8
                obtain ⟨z0, z1, z2, zz⟩ := vfacts H9.out.cl.cs.res
                unfold fin26
                simp only [Act.put, List.setIfInBounds_toArray, List.set_cons_zero, List.set_cons_succ]
                go_wp2
                have HF := H9.out.cl.cs.fin (.string emp) (.int .i64 0) (.slice none 0 0)
                refine bodyPost_ret (ret18 Tryz.results62 rfl HF.1) rfl ?_
                rw [HP.out]
                exact ⟨HF.2, rfl⟩
              | ok d =>
                obtain ⟨y2, a7⟩ := d
                have ha7 := HLE.out y2 a7 hk
                rw [hk] at HTK2 HR
                dsimp only at HTK2 HR
                clear hk
                have HRR := hQ.out.cl.cs.rr
                have HXB := hQ.out.xb
                go_upto_region 26 with fail
                refine wp_region_noPanic ?_
                refine reg26 _ _ _ r rx _ _ _ _ y L m hm (by simp) rfl rfl rfl rfl HRR HXB n5 _ (fun _ _ _ _ _ h => h) _ (HTK2.out _ HSW.out) ?_
                rintro e w8 ⟨hb8', y8, a8, e8, st8, E8, rfl, hE7, hy7, ha8, he8⟩
                subst hE7 hy7 ha8 he8
                have hb8 : Below wr.heap.size wr w8 := ⟨hb8'.os, hb8'.tape, hb8'.output, hb8'.size, hb8'.block⟩
                have H8 := hid (hQ.out.below hb8)
                refine ⟨ao, bs.length, cc, _, _, st8, _, _, rfl, H8.out.cl.cs.rr.trans HRR.symm, H8.out.xb.trans HXB.symm, NoPanic.normal ?_⟩
                clear x0 x1 x2 x3 x4 x5 x6 x7 xz p0 p1 p2 p3 pz z0 z1 z2 zz hb8 hb8' HRR HXB
                refine cutG (fun W => Dcx w W (.slice ao bs.length cc) a8 0 st8 (mkStr ns) ar (.slice ao5 n c5) r q ys rx y8) (H8.out.both (.slice ao bs.length cc) a8 0 st8 y8) ?_
                intro W9 HH
                have H9 := hid HH
                clear HH H8
                unfold fin26
                simp only [Act.put, List.setIfInBounds_toArray, List.set_cons_zero, List.set_cons_succ]
                go_wp2
                go_roundw
                case rel => exact ⟨m + 1, a8, st8, y8, by omega, by go_num, ha7, HR, H9⟩
                case measure => simp [intOf]; omega
            · have HIN : Hid (tkIns bs bs.length a = .ok (y, a6)) := hid (by
                rw [HTL.out, ← HTR.out, List.drop_eq_nil_of_le (by rw [strBs_len]; omega)]
                rfl)
              obtain ⟨q0, q1, q2, qz⟩ := vfacts hQ.out.cl.cs.rp
              have hqb : q + 1 ≤ (wr.alloc (io y.op y.a y.b y.c y.n y.k y.i y.t)).heap.size := by have := lt_of hQ.out.cl.cs.rp; simp; omega
              have HOW : Hid ((wr.alloc (io y.op y.a y.b y.c y.n y.k y.i y.t)).ownsRow (q + 1) 53 8 (.slice ao5 n c5) n (ys.flatMap Ins.cells)) := hid (by have := hQ.out.cl.ow.alloc (io y.op y.a y.b y.c y.n y.k y.i y.t); rwa [hys] at this)
              go_wp2_with (at_builtin; go_loud (
                refine wpList_append_rf _ rfl _ _ 25 53 (.agg zCells) 8 72 rfl Tryz.underlying25 Tryz.info28z rfl (by decide) (q + 1) _ n _ rfl HOW.out _ 1 ([y].flatMap Ins.cells) rfl (rf_new wr y) (by omega) (by unfold maxLen; omega) hqb ?_
                intro ao3 c3 w3 hown hgrow hat
                have H3 := hid (hQ.out.cl.app (by rw [hys]; exact hown.out) hgrow.out)
                have H4 := hid (hQ.out.cl.grown hgrow.out)
                clear hown hgrow hat q0 q1 q2 qz p0 p1 p2 p3 pz z0 z1 z2 zz x0 x1 x2 x3 x4 x5 x6 x7 xz
                obtain ⟨q0, q1, q2, qz⟩ := vfacts H4.out.rp))
              go_roundw
              case rel => exact ⟨n + 1, a6, st6, ys ++ [y], ao3, c3, by omega, by go_num, ha6, by simp [hys], hid (by rw [← pre_ok bs bs.length (M - (n + 1)) a ys y a6 HIN.out, ← HMN.out]; exact HPR.out), H3⟩
              case measure => simp [intOf]; omega
          · have HP : Hid (decP bs = .error 16) := hid (by rw [decP, HM.out, ← HPR.out, HMN.out, pre_no bs bs.length _ a ys 16 (by rw [HTI.out, if_pos rfl, if_neg hop])]; rfl)
            rw [fdS_none op hop] at HF35
            clear hop HTI
            go_wp2_with (first
              | (go_at_call 74
                 refine (HF35.out _).mono ?_
                 rintro e w' ⟨rfl, e1⟩
                 rw [e1]
                 clear e1 w'))
            have HF := H7.out.cl.cs.fin (.string emp) (.int .i64 0) (.slice none 0 0)
            refine bodyPost_ret (ret18 Tryz.results62 rfl HF.1) rfl ?_
            rw [HP.out]
            exact ⟨HF.2, rfl⟩
        · have HP : Hid (decP bs = .error e5) := hid (by rw [decP, HM.out, ← HPR.out, HMN.out, pre_no bs bs.length _ a ys e5 (by rw [HTI.out, if_neg he5])]; rfl)
          have hC3 : (e5 == 0) = false := by simpa using he5
          have hC4 : (e5 != 0) = true := by simpa using he5
          clear he5
          go_wp2
          go_region_held (fun wx => wx.cell? ⟨r, 2, none⟩ = some (.int .i64 e5)) (first | go_keep | (simp only [dw_cellk, cs_blkk n3, p2]; done)) (fail)
          go_wp2
          have HF := H6.out.cs.fin (.string emp) (.int .i64 0) (.slice none 0 0)
          refine bodyPost_ret (ret18 Tryz.results62 rfl HF.1) rfl ?_
          rw [HP.out]
          exact ⟨⟨HF.2.os, HF.2.tape, HF.2.output, HF.2.size, HF.2.block⟩, rfl⟩
      · obtain rfl : n = M := by omega
        have HTK : Hid (tkCode bs bs.length n a3 = .ok (ys, a)) := hid (by rw [← HPR.out, Nat.sub_self, tkCode, pre, List.append_nil])
        obtain ⟨EN, hEN⟩ : ∃ EN, EN = endZ bs.length a 0 := ⟨_, rfl⟩
        have HE := hid (fun W => rend_any ao bs.length cc a 0 st W hl ha)
        rw [← hEN] at HE
        obtain ⟨q0, q1, q2, qz⟩ := vfacts hT.out.cs.rp
        by_cases hE0 : EN = 0
        · have HPK : Hid (tkProc bs = .ok (ns, ar, ys)) := hid (by rw [HM.out, HTK.out, tkEnd, if_pos (by rw [← hEN]; exact hE0)])
          subst hE0
          obtain ⟨C1, C2, hC⟩ : ∃ C1 C2, procChk (mkStr ns) ar ys = (C1, C2) := ⟨_, _, rfl⟩
          have HCK := hid (fun W hW => rpcheck_any (mkStr ns) ar (.slice ao5 n c5) ys W hW (by omega))
          rw [hC] at HCK
          dsimp only at HCK
          by_cases hC2 : C2 = 0
          · have HP : Hid (decP bs = .ok (ns, ar, ys)) := hid (by rw [decP, HPK.out]; dsimp only; rw [hC, if_pos hC2])
            subst hC2
            clear hEN hC
            go_wp2_with (first
              | (go_at_call 32
                 refine (HE.out _).mono ?_
                 rintro e w5 ⟨rfl, hb5⟩
                 have H5 := hid (hT.out.below hb5)
                 clear q0 q1 q2 qz p0 p1 p2 p3 pz z0 z1 z2 zz
                 obtain ⟨q0, q1, q2, qz⟩ := vfacts H5.out.cs.rp
                 clear hb5)
              | (go_at_call 36
                 refine (HCK.out _ H5.out.code).mono ?_
                 rintro e w6 ⟨rfl, hb6⟩
                 have H6 := hid (H5.out.below hb6)
                 obtain ⟨q0, q1, q2, qz⟩ := vfacts H6.out.cs.rp
                 obtain ⟨z0, z1, z2, zz⟩ := vfacts H6.out.cs.res
                 clear hb6))
            have HF := H6.out.cs.fin (.string (mkStr ns)) (.int .i64 ar) (.slice ao5 n c5)
            refine bodyPost_ret (ret18 Tryz.results62 rfl HF.1) rfl ?_
            rw [HP.out]
            exact ⟨HF.2, _, rfl, H6.out.done _ _ _, H6.out.doneT _ _ _⟩
          · have HP : Hid (decP bs = .error C2) := hid (by rw [decP, HPK.out]; dsimp only; rw [hC, if_neg hC2])
            have hC3 : (C2 == 0) = false := by simpa using hC2
            have hC4 : (C2 != 0) = true := by simpa using hC2
            clear hEN hC hC2
            go_wp2_with (first
              | (go_at_call 32
                 refine (HE.out _).mono ?_
                 rintro e w5 ⟨rfl, hb5⟩
                 have H5 := hid (hT.out.below hb5)
                 clear q0 q1 q2 qz p0 p1 p2 p3 pz z0 z1 z2 zz
                 obtain ⟨q0, q1, q2, qz⟩ := vfacts H5.out.cs.rp
                 clear hb5)
              | (go_at_call 36
                 refine (HCK.out _ H5.out.code).mono ?_
                 rintro e w6 ⟨rfl, hb6⟩
                 have H6 := hid (H5.out.below hb6)
                 obtain ⟨z0, z1, z2, zz⟩ := vfacts H6.out.cs.res
                 clear hb6))
            have HF := H6.out.cs.fin (.string emp) (.int .i64 0) (.slice none 0 0)
            refine bodyPost_ret (ret18 Tryz.results62 rfl HF.1) rfl ?_
            rw [HP.out]
            exact ⟨HF.2, rfl⟩
        · have HP : Hid (decP bs = .error EN) := hid (by rw [decP, HM.out, HTK.out, tkEnd, ← hEN, if_neg hE0])
          have hC3 : (EN == 0) = false := by simpa using hE0
          have hC4 : (EN != 0) = true := by simpa using hE0
          clear hE0 hEN
          go_wp2_with (first
            | (go_at_call 32
               refine (HE.out _).mono ?_
               rintro e w5 ⟨rfl, hb5⟩
               have H5 := hid (hT.out.below hb5)
               obtain ⟨z0, z1, z2, zz⟩ := vfacts H5.out.cs.res
               clear hb5))
          have HF := H5.out.cs.fin (.string emp) (.int .i64 0) (.slice none 0 0)
          refine bodyPost_ret (ret18 Tryz.results62 rfl HF.1) rfl ?_
          rw [HP.out]
          exact ⟨HF.2, rfl⟩
    · have HP : Hid (decP bs = .error 4) := hid (by rw [decP, HK.out, if_pos rfl, if_neg hN])
      have hN' : (64 : Int) < N := by omega
      clear hN
      go_wp2
      have HF := H8.out.fin (.string emp) (.int .i64 0) (.slice none 0 0)
      refine bodyPost_ret (ret18 Tryz.results62 rfl HF.1) rfl ?_
      rw [HP.out]
      exact ⟨HF.2, rfl⟩
  · have HP : Hid (decP bs = .error e3) := hid (by rw [decP, HK.out, if_neg he3])
    have he4 : (e3 == 0) = false := by simpa using he3
    have he5 : (e3 != 0) = true := by simpa using he3
    clear he3
    go_wp2
    go_region_held (fun wx => wx.cell? ⟨r, 2, none⟩ = some (.int .i64 e3)) (first | go_keep | (simp only [dw_cellk, cs_blkk n3, p2]; done)) (fail)
    go_wp2
    have HF := H8.out.fin (.string emp) (.int .i64 0) (.slice none 0 0)
    refine bodyPost_ret (ret18 Tryz.results62 rfl HF.1) rfl ?_
    rw [HP.out]
    exact ⟨⟨HF.2.os, HF.2.tape, HF.2.output, HF.2.size, HF.2.block⟩, rfl⟩

end Go.Proofs.YtdnlfacfleemeaaGreat

namespace Go.Proofs.YtdnlfacfleemeaaGreat
open Go.RowKit Go.Lib

/-- While a twin is looked at. -/
structure Sns (w W : World) (nm : ByteArray) (ar : Int) (S1 S2 : Value) (g : Nat) (zs : List Ins) : Prop where
  r0 : W.heap[w.heap.size]? = some (po nm ar S1)
  r1 : W.heap[w.heap.size + 1]? = some (po nm ar S2)
  at_ : ∀ (j : Nat) (x : Ins), zs[j]? = some x → InsAt W g (j * 8) x
  hb : Below w.heap.size w W

theorem Sns.below {w W W' : World} {nm : ByteArray} {ar : Int} {S1 S2 : Value} {g : Nat} {zs : List Ins} (h : Sns w W nm ar S1 S2 g zs) (hb : Below W.heap.size W W') : Sns w W' nm ar S1 S2 g zs :=
  ⟨blk_of hb h.r0 (lt_of h.r0), blk_of hb h.r1 (lt_of h.r1), fun j x hx => (h.at_ j x hx).same (hb.block g (h.at_ j x hx).lt), below_on h.hb hb⟩

theorem sns_start (w : World) (nm : ByteArray) (ar : Int) (S1 S2 : Value) (g : Nat) (zs : List Ins) (h : ∀ (j : Nat) (x : Ins), zs[j]? = some x → InsAt w g (j * 8) x) : Sns w ((w.alloc (po nm ar S1)).alloc (po nm ar S2)) nm ar S1 S2 g zs :=
  ⟨two1 w _ _, two2 w _ _, fun j x hx => (h j x hx).same ((below2 w _ _).block g (h j x hx).lt), below2 w _ _⟩

def marks : List Ins := (List.range 9).map (fun i : Nat => markI (i : Int))

theorem marks_at (xs : List Ins) (k : Nat) (h : k < 9) : (xs ++ marks)[xs.length + k]? = some (markI (k : Int)) := by
  rw [List.getElem?_append_right (by omega)]
  simp [marks, h]

theorem tw_code {w : World} {g cap : Nat} {xs zs : List Ins} (hcap : xs.length ≤ cap) (h : ∀ (j : Nat) (x : Ins), (xs ++ zs)[j]? = some x → InsAt w g (j * 8) x) : CodeAt w (.slice (some ⟨g, 0, none⟩) xs.length cap) xs :=
  ⟨_, cap, rfl, hcap, fun _ => ⟨g, 0, rfl, fun j x hx => by rw [Nat.zero_add]; exact h j x (by rw [List.getElem?_append_left (List.getElem?_eq_some_iff.1 hx).1]; exact hx)⟩⟩

end Go.Proofs.YtdnlfacfleemeaaGreat

namespace Go.Proofs.YtdnlfacfleemeaaGreat
open Go.RowKit Go.Lib

/-- Behind the twin: the law's blocks, the twin's list with its marks. -/
structure Ckt (w W : World) (nm : ByteArray) (ar : Int) (S : Value) (x : Ins) (r g cap : Nat) (xs : List Ins) : Prop where
  st : Bst w W nm ar S x
  t : W.heap[r]? = some (po nm ar (.slice (some ⟨g, 0, none⟩) xs.length cap))
  co : CodeAt W S xs
  at_ : ∀ (j : Nat) (y : Ins), (xs ++ marks)[j]? = some y → InsAt W g (j * 8) y
  blk : ∃ cur, W.heap[g]? = some (.cells cur 53 (0, 0))
  new : w.heap.size + 1 < g ∧ w.heap.size + 1 < r ∧ g ≠ r

theorem Ckt.below {w W W' : World} {nm : ByteArray} {ar : Int} {S : Value} {x : Ins} {r g cap : Nat} {xs : List Ins} (h : Ckt w W nm ar S x r g cap xs) (hb : Below W.heap.size W W') : Ckt w W' nm ar S x r g cap xs := by
  obtain ⟨cur, hc⟩ := h.blk
  exact ⟨h.st.below hb, blk_of hb h.t (lt_of h.t), h.co.below hb, fun j y hy => (h.at_ j y hy).same (hb.block g (h.at_ j y hy).lt), ⟨cur, blk_of hb hc (lt_of hc)⟩, h.new⟩

theorem ckt_start {w W w1 : World} {nm : ByteArray} {ar : Int} {S : Value} {x : Ins} {g cap : Nat} {xs : List Ins} {cur : Array Value} (h : Bst w W nm ar S x) (hs : CodeAt W S xs) (hg : W.heap.size ≤ g) (hk : w1.heap[g]? = some (.cells cur 53 (0, 0)))
    (ha : ∀ (j : Nat) (y : Ins), (xs ++ marks)[j]? = some y → InsAt w1 g (j * 8) y) (hb : Below W.heap.size W w1) : Ckt w (w1.alloc (po nm ar (.slice (some ⟨g, 0, none⟩) xs.length cap))) nm ar S x w1.heap.size g cap xs := by
  have hb2 := below_on hb (below1 w1 (po nm ar (.slice (some ⟨g, 0, none⟩) xs.length cap)))
  have hl := lt_of h.r1
  have hl2 := lt_of hk
  have hl3 := hb.size
  exact ⟨h.below hb2, heap_alloc_new w1 _, hs.below hb2, fun j y hy => (ha j y hy).same ((below1 w1 _).block g (ha j y hy).lt), ⟨cur, blk_of (below1 w1 _) hk hl2⟩, by omega, by omega, by omega⟩

theorem Ckt.code {w W : World} {nm : ByteArray} {ar : Int} {S : Value} {x : Ins} {r g cap : Nat} {xs : List Ins} (h : Ckt w W nm ar S x r g cap xs) (hcap : xs.length ≤ cap) : CodeAt W (.slice (some ⟨g, 0, none⟩) xs.length cap) xs := tw_code hcap h.at_

/-- Behind the store. -/
structure Ck2 (w W : World) (nm : ByteArray) (ar : Int) (r : Nat) (S2 : Value) (ys : List Ins) : Prop where
  t : W.heap[r]? = some (po nm ar S2)
  co : CodeAt W S2 ys
  hb : Below w.heap.size w W

theorem Ck2.below {w W W' : World} {nm : ByteArray} {ar : Int} {r : Nat} {S2 : Value} {ys : List Ins} (h : Ck2 w W nm ar r S2 ys) (hb : Below W.heap.size W W') : Ck2 w W' nm ar r S2 ys :=
  ⟨blk_of hb h.t (lt_of h.t), h.co.below hb, below_on h.hb hb⟩

theorem ck2_start {w W : World} {nm : ByteArray} {ar : Int} {S : Value} {x : Ins} {r g cap cN : Nat} {xs : List Ins} (h : Ckt w W nm ar S x r g cap xs) (hcap : xs.length ≤ cap) (hlt : cN < xs.length) :
    Ck2 w (put8 W g (cN * 8) x) nm ar r (.slice (some ⟨g, 0, none⟩) xs.length cap) (xs.set cN x) := by
  have k := put8_kept W g (cN * 8) x
  refine ⟨(k.block _ (lt_of h.t) h.new.2.2.symm).trans h.t, put8_code hcap (fun j y hy => h.at_ j y (by rw [List.getElem?_append_left (List.getElem?_eq_some_iff.1 hy).1]; exact hy)) hlt, h.st.hb.trans (k.below h.st.hb.size (fun q hq e => by have := h.new.1; omega))⟩

end Go.Proofs.YtdnlfacfleemeaaGreat
