import Derived.Test.YtlmompdfombgeabGreatK31
import Derived.Test.YtlmompdfombgeabGreatK32
namespace Go.Proofs.YtlmompdfombgeabGreat
open Go.RowKit Go.MapKept

set_option maxRecDepth 100000 in
set_option maxHeartbeats 12800000 in
theorem own_law (room most : Int) (v : Value) (xs : List Sp) (w : World) (h : Sps w v xs) :
    Calls Tryz.prog 6 #[.int .i64 room, .int .i64 most, v] w fun x w' => x = .returned (.bool true) ∧ Below w.heap.size w w' := by
  obtain ⟨ao, cap, rfl, hc, hcm⟩ := h.1.shape
  have HS := hid h
  have HMU := hid (much_any (.slice ao xs.length cap) xs w h)
  clear h
  go_enter Tryz.func6, Tryz.ntmps6
  go_upto_region 3 with (first
    | (go_at_call 7
       refine HMU.out.mono ?_
       rintro e w1 ⟨hb1, rr, rfl, hm⟩
       have H1 := hid (And.intro hb1 hm)
       clear HMU hb1 hm)
    | (go_at_call 8
       refine (known_any _).mono ?_
       rintro e w3 ⟨rfl, hb3⟩
       have HK := hid hb3
       clear hb3))
  all_goals try (go_ret; exact ⟨rfl, bel_on H1.out.1 HK.out⟩)
  have hrr : rr = false ∧ (xs.length : Int) ≤ 40 := by simp_all
  obtain ⟨hrr, hx40⟩ := hrr
  have HSM := hid (H1.out.2 hrr)
  have HW2 := hid H1.out.1
  clear H1
  subst hrr
  by_cases hg : 0 ≤ room ∧ room ≤ 4194304 ∧ 0 ≤ most ∧ most ≤ 512
  · obtain ⟨g0, g1, g2, g3⟩ := hg
    have HFR := hid (fun W => fresh_ok room most W g0 g1 g2 g3)
    go_upto_region 7 with (first
      | (go_at_call 9
         refine (HFR.out _).mono ?_
         rintro e w3 ⟨rfl, ⟨t1, hd1, hl1⟩, hb3⟩
         have H3 := hid (And.intro hd1 (And.intro hl1 hb3))
         have HFS := HFR
         clear HFR hd1 hl1 hb3)
      | (go_at_call 9
         refine (HFS.out _).mono ?_
         rintro e w4 ⟨rfl, ⟨t2, hd2, hl2⟩, hb4⟩
         have H4 := hid (two_start HW2.out H3.out.1 H3.out.2.1 H3.out.2.2 hd2 hl2 hb4)
         clear HFS hd2 hl2 hb4))
    clear H3
    generalize w1.heap.size = d1 at H4 ⊢
    generalize w3.heap.size = d2 at H4 ⊢
    clear HW2
    go_wp2
    go_loopw [9, 10, 11] (fun lv rv ix wr => ∃ (k : Nat) (t1 t2 : Wt) (D : Dq) (g : Nat → Nat) (C : Nat → List Int) (la : Option Addr) (m lc : Nat) (ls : List Li) (ra : Option Addr) (rc : Nat) (rs : List Ri), k ≤ xs.length ∧ lv = .slice la m lc ∧ rv = .slice ra k rc ∧ ix = .int .i64 k ∧ Hid (Ow w wr d1 t1 D d2 t2 D g C (.slice la m lc) m ls (.slice ra k rc) rs ∧ ls.length = m ∧ rs.length = k ∧ m ≤ 3 * k ∧ WD (4 * k) D)) (fun _ _ ix _ => xs.length - (intOf ix).toNat)
    case atStart => exact ⟨0, t1, t2, newD room most, _, _, none, 0, 0, [], none, 0, [], Nat.zero_le _, rfl, rfl, rfl, hid ⟨ow_start H4.out, rfl, rfl, Nat.zero_le _, newD_WD room most g0 g1 g2 g3⟩⟩
    case round =>
      clear H4
      obtain ⟨k, t1, t2, D, g, C, la, m, lc, ls, ra, rc, rs, hk, rfl, rfl, rfl, HR⟩ := hrel
      by_cases hlt : k < xs.length
      · have i1 : (k : Int) < (xs.length : Int) := by omega
        obtain ⟨b, ofs, cap', e, -, -, hcell⟩ := Rf.elem (f := scs) (fun _ => rfl) (by omega) HS.out.1 k hlt
        injection e with e1 e2 e3
        subst e1 e3
        clear e2
        have hok := HS.out.2 xs[k] (List.getElem_mem hlt)
        have hsm := HSM.out.2 xs[k] (List.getElem_mem hlt)
        obtain ⟨x, hx⟩ : ∃ x, x = xs[k] := ⟨_, rfl⟩
        rw [← hx] at hok hsm hcell
        have hdoes := fun (W : World) (d : Nat) (t : Wt) (hd : DkT W d t D) (hb : Below w.heap.size w W) (hlo : ∀ q, Dft d t D q → w.heap.size ≤ q) => does_dk x (⟨hd, HR.out.2.2.2.2, by omega, hok, hb, hlo, hsm⟩ : DoesPre w W d t D (4 * k) x)
        have HOK := hid hok
        have HSX := hid hsm
        obtain ⟨D', hD'⟩ : ∃ D', D' = (doesP x D).2 := ⟨_, rfl⟩
        obtain ⟨er, her⟩ : ∃ er, er = (doesP x D).1 := ⟨_, rfl⟩
        have hW' : WD (4 * k + 2) D' := by rw [hD']; exact HR.out.2.2.2.2.doesP x
        simp only [← hD', ← her] at hdoes
        have HD' := hid hD'
        obtain ⟨kind, name, tn, dv, data, nn, sv, gs, rv', gr, qn, fv, qk⟩ := x
        obtain ⟨-, -, -, -, -, hdt, -, hfs, -, hfr, -, hpk⟩ := hok
        obtain ⟨a1, q1', e1, -, -⟩ := hdt.shape
        obtain ⟨a2, q2', e2, -, -⟩ := hfs.shape
        obtain ⟨a3, q3', e3, -, -⟩ := hfr.shape
        obtain ⟨a4, q4', e4, -, -⟩ := hpk.1.shape
        dsimp only at e1 e2 e3 e4
        subst e1 e2 e3 e4
        have hcq := fun c u hu => ((HR.out.1.tw.hb.cell (World.block_lt_of_cell? _ _ (hcell c u hu))).trans (hcell c u hu))
        have y0 := (show wr.cell? ⟨b, ofs + k * 9, none⟩ = some (.int .i64 kind) from hcq 0 _ rfl)
        have y1 := (show wr.cell? ⟨b, ofs + k * 9 + 1, none⟩ = some (.string name) from hcq 1 _ rfl)
        have y2 := (show wr.cell? ⟨b, ofs + k * 9 + 2, none⟩ = some (.string tn) from hcq 2 _ rfl)
        have y3 := (show wr.cell? ⟨b, ofs + k * 9 + 3, none⟩ = some (.slice a1 data.length q1') from hcq 3 _ rfl)
        have y4 := (show wr.cell? ⟨b, ofs + k * 9 + 4, none⟩ = some (.int .i64 nn) from hcq 4 _ rfl)
        have y5 := (show wr.cell? ⟨b, ofs + k * 9 + 5, none⟩ = some (.slice a2 gs.length q2') from hcq 5 _ rfl)
        have y6 := (show wr.cell? ⟨b, ofs + k * 9 + 6, none⟩ = some (.slice a3 gr.length q3') from hcq 6 _ rfl)
        have y7 := (show wr.cell? ⟨b, ofs + k * 9 + 7, none⟩ = some (.int .i64 qn) from hcq 7 _ rfl)
        have y8 := (show wr.cell? ⟨b, ofs + k * 9 + 8, none⟩ = some (.slice a4 qk.length q4') from hcq 8 _ rfl)
        have HDO := hid hdoes
        have HWN := hid hW'
        have HPK := hid hpk
        clear hcell hcq hdt hfs hfr hpk hdoes hx hsm hD' her hW'
        go_upto_region 13 with fail
        have hba := bel_al wr (.cells #[.int .i64 kind, .string name, .string tn, .slice a1 data.length q1', .int .i64 nn, .slice a2 gs.length q2', .slice a3 gr.length q3', .int .i64 qn, .slice a4 qk.length q4'] 32)
        refine cutG (fun W => Ow w W d1 t1 D d2 t2 D g C (.slice la m lc) m ls (.slice ra k rc) rs ∧ W.heap[wr.heap.size]? = some (.cells #[.int .i64 kind, .string name, .string tn, .slice a1 data.length q1', .int .i64 nn, .slice a2 gs.length q2', .slice a3 gr.length q3', .int .i64 qn, .slice a4 qk.length q4'] 32 (0, 0)))
          ⟨HR.out.1.below hba, hp_new wr _⟩ ?_
        rintro W5 ⟨ho5, hx5⟩
        clear y0 y1 y2 y3 y4 y5 y6 y7 y8 hba
        generalize wr.heap.size = xb at hx5 ⊢
        obtain ⟨x0, x1, x2, x3, x4, x5, x6, x7, x8⟩ := step_cells hx5 (Below.refl _ W5)
        have H5 := hid (And.intro ho5 hx5)
        have HRR := hid HR.out.2
        clear ho5 hx5 HR
        go_upto_if 70 with fail
        go_cut [9] from 58 to 168 (fun v9 wc => ∃ (g' : Nat → Nat) (C' : Nat → List Int) (t1' t2' : Wt) (la' : Option Addr) (m' lc' : Nat) (ls' : List Li), v9 = .slice la' m' lc' ∧ Hid (Ow w wc d1 t1' D' d2 t2' D' g' C' (.slice la' m' lc') m' ls' (.slice ra k rc) rs ∧ wc.heap[xb]? = some (.cells #[.int .i64 kind, .string name, .string tn, .slice a1 data.length q1', .int .i64 nn, .slice a2 gs.length q2', .slice a3 gr.length q3', .int .i64 qn, .slice a4 qk.length q4'] 32 (0, 0)) ∧ ls'.length = m' ∧ m' ≤ m + 1))
        case first =>
          by_cases hkd : kind = 10
          · have hD10 : (crashP qn (pksOf qk) D).2 = D' := by rw [HD'.out, hkd]; rfl
            have hlb := crash_bounds HRR.out.2.2.2 qn (pksOf qk)
            have hqn := HOK.out.pn
            have hq3 := HSX.out.2.2.2.2.2
            have hca := fun (W : World) (d : Nat) (t : Wt) (hd : DkT W d t D) (hb : Below w.heap.size w W) (hlo : ∀ q, Dft d t D q → w.heap.size ≤ q) => O.crash_own hd HRR.out.2.2.2 (by omega) qn hqn (.slice a4 qk.length q4') qk (HPK.out.below hb) (by have := hq3.1; dsimp only at this; omega) (fun p hp => by have := hq3.2 p hp; omega) (fun q e e2 => by have := pk_lt HPK.out q e; have := hlo q e2; omega)
            rw [hD10] at hca
            have HCA := hid hca
            have HLB := hid hlb
            clear hca hlb hqn hq3 hD10
            subst hkd
            have HML := hid (show ls.length = m from HRR.out.1)
            have hm3 : m ≤ 120 := by have := HRR.out.2.2.1; omega
            have HW0 := hid (fun (W : World) (h : Below w.heap.size w W) (o : Obj) => show w.heap.size ≤ (W.alloc o).heap.size by have := h.size; simp; omega)
            clear x0 x1 x2 x3 x4 x5 x6
            go_upto_region 15 with (first
              | (go_at_call 12
                 refine (HCA.out _ d1 t1 H5.out.1.tw.h1 H5.out.1.tw.hb H5.out.1.tw.lo1).mono ?_
                 rintro e w6 ⟨v6, t6, rfl, ⟨B6, hB6, hF6⟩, hg6⟩
                 have hx6 := (hg6.kp.block xb (hp_lt H5.out.2) (H5.out.1.tw.h1.notTy (by decide) H5.out.2)).trans H5.out.2
                 obtain ⟨g6, C6, x6, rfl, ho6⟩ := H5.out.1.told hB6 hF6 hg6 HLB.out.1 HLB.out.2
                 obtain ⟨ao6, c6, h6, n6, Y6, len6⟩ := x6
                 dsimp only [Li.v]
                 have H6 := hid (And.intro ho6 hx6)
                 clear hB6 hF6 hg6 hx6 ho6 H5 x7 x8)
              | (at_builtin
                 refine wpList_append_rf _ rfl (.tmp 71) (.tmp 76) 72 38 _ 1 24 rfl Tryz.underlying72 Tryz.info38h rfl (by omega) w.heap.size (.slice la m lc) m _ rfl (ownsRow_kept H6.out.1.hl (Kept.ofBelow (bel_al _ _)) (fun _ _ h => h)) (.slice (some ⟨w6.heap.size, 0, none⟩) 1 1) 1 [.slice ao6 n6 c6] rfl (rf_one w6 38 _ rfl) (by omega) (by unfold maxLen; omega) (HW0.out _ H6.out.1.tw.hb _) ?_
                 intro la7 lc7 w7 hown hgr hob
                 obtain ⟨ho7, hx7⟩ := H6.out.1.headOne HML.out hown.out hgr.out hob.out H6.out.2
                 obtain ⟨-, -, -, -, -, -, -, z7, z8⟩ := step_cells hx7 (Below.refl _ w7)
                 have H7 := hid (And.intro ho7 hx7)
                 clear hown hgr hob hx7 ho7 H6))
            go_wp2_with (
              go_at_call 12
              refine (HCA.out _ d2 t2 H7.out.1.tw.h2 H7.out.1.tw.hb H7.out.1.tw.lo2).mono ?_
              rintro e w8 ⟨v8, t8, rfl, -, hg8⟩
              have hx8 := (hg8.kp.block xb (hp_lt H7.out.2) (H7.out.1.tw.h2.notTy (by decide) H7.out.2)).trans H7.out.2
              have H8 := hid (And.intro (H7.out.1.right hg8) hx8)
              clear hg8 hx8 H7 z7 z8)
            go_meet
            case rel => exact ⟨g6, C6, t6, t8, la7, m + 1, lc7, _, rfl, hid ⟨H8.out.1, H8.out.2, by rw [List.length_append, HML.out]; rfl, Nat.le_refl _⟩⟩
          · have hbd : Below W5.heap.size W5 W5.drew := ⟨rfl, rfl, rfl, Nat.le_refl _, fun _ _ => rfl⟩
            have H5d := hid (And.intro (H5.out.1.below hbd) (show W5.drew.heap[xb]? = some (.cells #[.int .i64 kind, .string name, .string tn, .slice a1 data.length q1', .int .i64 nn, .slice a2 gs.length q2', .slice a3 gr.length q3', .int .i64 qn, .slice a4 qk.length q4'] 32 (0, 0)) from H5.out.2))
            have X5 := hid H5d.out.2
            have XC := hid (fun (W : World) (h : W.heap[xb]? = some (.cells #[.int .i64 kind, .string name, .string tn, .slice a1 data.length q1', .int .i64 nn, .slice a2 gs.length q2', .slice a3 gr.length q3', .int .i64 qn, .slice a4 qk.length q4'] 32 (0, 0))) => step_cells h (Below.refl _ W))
            have HML := hid (show ls.length = m from HRR.out.1)
            clear hbd H5
            go_upto_region 16 with fail
            go_region_held (fun wx => wx.cell? ⟨xb, 0, none⟩ = some (.int .i64 kind) ∧ wx.cell? ⟨xb, 1, none⟩ = some (.string name) ∧ wx.cell? ⟨xb, 2, none⟩ = some (.string tn) ∧ wx.cell? ⟨xb, 3, none⟩ = some (.slice a1 data.length q1') ∧ wx.cell? ⟨xb, 4, none⟩ = some (.int .i64 nn) ∧ wx.cell? ⟨xb, 5, none⟩ = some (.slice a2 gs.length q2') ∧ wx.cell? ⟨xb, 6, none⟩ = some (.slice a3 gr.length q3') ∧ wx.cell? ⟨xb, 7, none⟩ = some (.int .i64 qn) ∧ wx.cell? ⟨xb, 8, none⟩ = some (.slice a4 qk.length q4')) (first | exact XC.out _ X7.out | exact XC.out _ X6.out | exact XC.out _ X5.out) (first
              | (go_at_call 10
                 refine (HDO.out _ d1 t1 H5d.out.1.tw.h1 H5d.out.1.tw.hb H5d.out.1.tw.lo1).mono ?_
                 rintro e w6 ⟨rfl, t6, hg6⟩
                 have hx6 := (hg6.kp.block xb (hp_lt H5d.out.2) (H5d.out.1.tw.h1.notTy (by decide) H5d.out.2)).trans H5d.out.2
                 have X6 := hid hx6
                 have H6 := hid (And.intro (H5d.out.1.left hg6) hx6)
                 clear hg6 hx6 H5d)
              | (go_at_call 10
                 refine (HDO.out _ d2 t2 H6.out.1.tw.h2 H6.out.1.tw.hb H6.out.1.tw.lo2).mono ?_
                 rintro e w7 ⟨rfl, t7, hg7⟩
                 have hx7 := (hg7.kp.block xb (hp_lt H6.out.2) (H6.out.1.tw.h2.notTy (by decide) H6.out.2)).trans H6.out.2
                 have X7 := hid hx7
                 have H7 := hid (And.intro (H6.out.1.right hg7) hx7)
                 clear hg7 hx7 H6))
            go_wp2
            go_meet
            case rel => exact ⟨g, C, t6, t7, la, m, lc, ls, rfl, hid ⟨H7.out.1, H7.out.2, HML.out, by omega⟩⟩
        case rest =>
          obtain ⟨g', C', t1', t2', la', m', lc', ls', rfl, HC⟩ := hcut
          clear H5 x0 x1 x2 x3 x4 x5 x6 x7 x8
          have hm4 : m' ≤ 121 := by have := HRR.out.2.2.1; have := HC.out.2.2.2; omega
          have HRS := hid (show rs.length = k from HRR.out.2.1)
          have HML := hid (show ls'.length = m' from HC.out.2.2.1)
          have HM3 := hid (show m' + 2 ≤ 3 * (k + 1) by have := HRR.out.2.2.1; have := HC.out.2.2.2; omega)
          have HB1 := hid (files_bounds HWN.out)
          have HB2 := hid (safe_bounds HWN.out)
          have HW0 := hid (fun (W : World) (h : Below w.heap.size w W) (o : Obj) => show w.heap.size ≤ (W.alloc o).heap.size by have := h.size; simp; omega)
          have HNM := hid (show name.size ≤ maxLen from HOK.out.name)
          have H5 := hid (And.intro HC.out.1 HC.out.2.1)
          clear HC HDO HPK HSX HD' HOK HRR
          obtain ⟨rb, hrb⟩ : ∃ rb, rb = (readP D' name).1 := ⟨_, rfl⟩
          obtain ⟨re, hre⟩ : ∃ re, re = (readP D' name).2.1 := ⟨_, rfl⟩
          obtain ⟨E, hE⟩ : ∃ E, E = (readP D' name).2.2 := ⟨_, rfl⟩
          have hrd := fun (W : World) (d : Nat) (t : Wt) (hd : DkT W d t D') => read_dk hd HWN.out (by omega) name HNM.out
          simp only [← hrb, ← hre, ← hE] at hrd
          have HRD := hid hrd
          have HE := hid (show E.files = D'.files by rw [hE]; exact readP_files D' name)
          have HWE := hid (show WD (4 * k + 3) E by rw [hE]; exact HWN.out.readP name)
          have HRL := hid (show rb.length ≤ 4194304 by rw [hrb]; exact read_len HWN.out name)
          clear hrb hre hE hrd
          go_upto_region 19 with (first
            | (go_at_call 14
               refine (files_dk H5.out.1.tw.h1 HWN.out).mono ?_
               rintro e w6 ⟨v6, rfl, hF6, hb6⟩
               obtain ⟨g6, C6, x6, rfl, ho6⟩ := H5.out.1.asked hF6 hb6 HB1.out.1 HB1.out.2
               have hx6 := hp_below H5.out.2 hb6 (hp_lt H5.out.2)
               obtain ⟨ao6, c6, h6, n6, Y6, len6⟩ := x6
               dsimp only [Li.v]
               have H6 := hid (And.intro ho6 hx6)
               clear hF6 hb6 ho6 hx6 H5)
            | (go_at_call 11
               refine (safe_dk H6.out.1.tw.h1 HWN.out).mono ?_
               rintro e w7 ⟨v7, rfl, hF7, hb7⟩
               obtain ⟨g7, C7, x7, rfl, ho7⟩ := H6.out.1.asked hF7 hb7 HB2.out.1 HB2.out.2
               have hx7 := hp_below H6.out.2 hb7 (hp_lt H6.out.2)
               obtain ⟨ao7, c7, h7, n7, Y7, len7⟩ := x7
               dsimp only [Li.v]
               have H7 := hid (And.intro ho7 hx7)
               clear hF7 hb7 ho7 hx7 H6)
            | (at_builtin
               refine wpList_append_rf _ rfl (.tmp 89) (.tmp 94) 72 38 _ 1 24 rfl Tryz.underlying72 Tryz.info38h rfl (by omega) w.heap.size (.slice la' m' lc') m' _ rfl (ownsRow_kept H7.out.1.hl (Kept.ofBelow (bel_al _ _)) (fun _ _ h => h)) (.slice (some ⟨w7.heap.size, 0, none⟩) 2 2) 2 [.slice ao6 n6 c6, .slice ao7 n7 c7] rfl (rf_two w7 38 _ _ rfl rfl) (by omega) (by unfold maxLen; omega) (HW0.out _ H7.out.1.tw.hb _) ?_
               intro la8 lc8 w8 hown hgr hob
               obtain ⟨ho8, hx8⟩ := H7.out.1.headTwo HML.out hown.out hgr.out hob.out H7.out.2
               have z1 := (step_cells hx8 (Below.refl _ w8)).2.1
               have H8 := hid (And.intro ho8 hx8)
               clear hown hgr hob hx8 ho8 H7))
          go_upto_region 20 with (
            go_at_call 27
            refine (HRD.out _ d1 t1' H8.out.1.tw.h1).mono ?_
            rintro e w9 ⟨v9, rfl, hN9, hd9, hk9⟩
            have hx9 := (hk9.block xb (hp_lt H8.out.2) (fun e => H8.out.1.tw.h1.notTy (by decide) H8.out.2 (.inl e))).trans H8.out.2
            obtain ⟨x9, C9, rfl, hn9, hs9, ho9, hi9⟩ := H8.out.1.readA hN9 hd9 hk9 HE.out HRL.out
            obtain ⟨ao9, c9, n9, y9⟩ := x9
            dsimp only at hn9 hs9 ⊢
            clear z1
            have z1 := (step_cells hx9 (Below.refl _ w9)).2.1
            have H9 := hid (And.intro ho9 (And.intro hi9 hs9))
            clear hN9 hd9 hk9 hx9 hn9 hs9 ho9 hi9 H8)
          go_upto_region 21 with (
            go_at_call 27
            refine (HRD.out _ d2 t2' H9.out.1.tw.h2).mono ?_
            rintro e w10 ⟨v10, rfl, hN10, hd10, hk10⟩
            obtain ⟨⟨a10, c10, rfl⟩, hs10⟩ := nb_sl2 hN10 (by unfold maxLen; have := HRL.out; omega)
            obtain ⟨ho10, hi10, hr10⟩ := H9.out.1.readB2 H9.out.2.1 H9.out.2.2 hd10 hk10 HE.out
            have H10 := hid (And.intro ho10 (And.intro hi10 (And.intro hr10 hs10)))
            clear hN10 hd10 hk10 hs10 ho10 hi10 hr10 H9 z1)
          have HFB := hid (files_bounds HWE.out)
          have HSB := hid (safe_bounds HWE.out)
          have HTS := hid (told_small HWE.out)
          have HPL := hid (show (pendD E).length ≤ 1000 by have h1 := HWE.out.cnt; have h2 := HWE.out.lim; simp [pendD]; omega)
          go_upto_region 23 with (first
            | (go_at_call 31
               refine (bytes_yes _ _ rb _ H10.out.2.2.1 H10.out.2.2.2 (by have := HRL.out; omega)).mono ?_
               rintro e w11 ⟨rfl, hb11⟩
               have H11 := hid (And.intro (H10.out.1.below hb11) (H10.out.2.1.below hb11))
               clear hb11 H10)
            | (go_at_call 30
               refine (tell_dk H11.out.1.tw.h1 HWE.out (by omega)).mono ?_
               rintro e w12 ⟨v12, rfl, ht12, hb12⟩
               obtain ⟨⟨b1, k1, b2, k2, b3, k3, rfl, f1, f2, f3⟩⟩ := ht12
               have H12 := hid (And.intro (H11.out.1.below hb12) (And.intro (H11.out.2.below hb12) (⟨⟨_, f1⟩, ⟨_, f2⟩, ln_of_owns f3⟩ : Tl w12 (filesD E) (safeD E) (pendD E) _ _ _)))
               clear f1 f2 f3 hb12 H11)
            | (go_at_call 30
               refine (tell_dk H12.out.1.tw.h2 HWE.out (by omega)).mono ?_
               rintro e w13 ⟨v13, rfl, ht13, hb13⟩
               obtain ⟨⟨c1, l1, c2, l2, c3, l3, rfl, f1, f2, f3⟩⟩ := ht13
               have H13 := hid (And.intro (H12.out.1.below hb13) (And.intro (H12.out.2.1.below hb13) (And.intro (H12.out.2.2.below hb13) (⟨⟨_, f1⟩, ⟨_, f2⟩, ln_of_owns f3⟩ : Tl w13 (filesD E) (safeD E) (pendD E) _ _ _))))
               clear f1 f2 f3 hb13 H12)
            | (go_at_call 32
               refine (same_yes _ _ _ _ H13.out.2.2.1 H13.out.2.2.2 HFB.out.1 HSB.out.1 HPL.out HTS.out.1.2 HTS.out.2.2).mono ?_
               rintro e w14 ⟨rfl, hb14⟩
               have H14 := hid (And.intro (H13.out.1.below hb14) (H13.out.2.1.below hb14))
               clear hb14 H13))
          go_upto_region 24 with (
            at_builtin
            refine wpList_append_rf _ rfl (.tmp 127) (.tmp 129) 73 27 _ 1 24 rfl Tryz.underlying73 Tryz.info27h rfl (by omega) w.heap.size (.slice ra k rc) k _ rfl (ownsRow_kept (show w14.ownsRow w.heap.size 27 1 (.slice ra k rc) k (rs.map Ri.v) from HRS.out ▸ H14.out.1.hr) (Kept.ofBelow (bel_al _ _)) (fun _ _ h => h)) (.slice (some ⟨w14.heap.size, 0, none⟩) 1 1) 1 [.slice ao9 n9 c9] rfl (rf_one w14 27 _ rfl) (by omega) (by unfold maxLen; omega) (HW0.out _ H14.out.1.tw.hb _) ?_
            intro ra15 rc15 w15 hown hgr hob
            obtain ⟨g15, C15, ho15⟩ := H14.out.1.addR' HRS.out H14.out.2 hown.out hgr.out hob.out
            have H15 := hid ho15
            clear hown hgr hob ho15 H14)
          go_upto_region 25 with (
            go_at_call 26
            refine (list_any H15.out.tw.h1 HWE.out).mono ?_
            rintro e w16 ⟨a16, n16, c16, e16, xs16, rfl, hn16, how16, hb16⟩
            have H16 := hid (ovr_start hb16 how16)
            clear how16 hb16)
          go_wp2_with fail
          go_loopw [18] (fun ix wq => ∃ j : Nat, j ≤ n16 ∧ ix = .int .i64 j ∧ Hid (OvR w15 wq a16 n16 9)) (fun ix _ => n16 - (intOf ix).toNat)
          case atStart => exact ⟨0, Nat.zero_le _, rfl, H16⟩
          case round =>
            clear H16
            obtain ⟨j, hj, rfl, HO⟩ := hrel
            by_cases hjl : j < n16
            · have hjl' : (j : Int) < (n16 : Int) := by omega
              obtain ⟨b16, u16, rfl, yc, yf, ho⟩ := HO.out.set hjl (.string { data := #[115, 112, 111, 105, 108, 116] })
              have HN := hid ho
              clear ho HO
              go_wp2
              clear yc yf
              go_roundw
              case rel => first | exact ⟨j + 1, by omega, by go_num, HN⟩ | ((repeat apply Exists.intro); exact ⟨⟨j + 1, by omega, by go_num, HN⟩, rfl⟩)
              case measure => simp [intOf]; omega
            · have H17 := hid (H15.out.below HO.out.1)
              clear HO H15
              generalize wr = W17 at H17 ⊢
              obtain ⟨n18, hn18⟩ : ∃ n, n = E.files.length := ⟨_, rfl⟩
              have hl18 : n18 ≤ 1000 := by have h1 := HWE.out.cnt; have h2 := HWE.out.lim; omega
              have HPD := hid (fun (W : World) (d : Nat) (t : Wt) (hd : DkT W d t E) => hn18 ▸ pending_dk hd HWE.out (by omega))
              clear hn18
              go_upto_region 30 with (
                go_at_call 25
                refine (HPD.out _ d1 t1' H17.out.tw.h1).mono ?_
                rintro e w18 ⟨v18, rfl, how18, hb18⟩
                obtain ⟨a18, c18, rfl⟩ := own_shape how18
                have H18 := hid (ovr_start hb18 how18)
                clear how18 hb18)
              go_wp2_with fail
              go_loopw [21] (fun ix wq => ∃ i : Nat, i ≤ n18 ∧ ix = .int .i64 i ∧ Hid (OvR W17 wq a18 n18 3)) (fun ix _ => n18 - (intOf ix).toNat)
              case atStart => exact ⟨0, Nat.zero_le _, rfl, H18⟩
              case round =>
                clear H18
                obtain ⟨i, hi, rfl, HO⟩ := hrel
                by_cases hil : i < n18
                · have hil' : (i : Int) < (n18 : Int) := by omega
                  obtain ⟨b18, u18, rfl, yc, yf, ho⟩ := HO.out.set hil (.int .i64 (-1))
                  have HN := hid ho
                  clear ho HO
                  go_wp2
                  clear yc yf
                  go_roundw
                  case rel => first | exact ⟨i + 1, by omega, by go_num, HN⟩ | ((repeat apply Exists.intro); exact ⟨⟨i + 1, by omega, by go_num, HN⟩, rfl⟩)
                  case measure => simp [intOf]; omega
                · have H19 := hid (H17.out.below HO.out.1)
                  clear HO H17
                  have HLT := hid (show (ls' ++ [(⟨ao6, c6, h6, n6, Y6, len6⟩ : Li)] ++ [(⟨ao7, c7, h7, n7, Y7, len7⟩ : Li)]).length = m' + 2 by have := HML.out; simp; omega)
                  have HL7 := hid (show (ls' ++ [(⟨ao6, c6, h6, n6, Y6, len6⟩ : Li)] ++ [(⟨ao7, c7, h7, n7, Y7, len7⟩ : Li)])[m' + 1]? = some ⟨ao7, c7, h7, n7, Y7, len7⟩ by have := HML.out; simp [this])
                  have HRT := hid (show (rs ++ [(⟨ao9, c9, n9, y9⟩ : Ri)]).length = k + 1 by have := HRS.out; simp; omega)
                  by_cases h3 : (k : Int) % 3 = 2
                  · obtain ⟨hb8, rfl, hcp8, hcell8⟩ := H19.out.atL HLT.out (by omega)
                    have y8 := hcell8 (m' + 1) _ HL7.out
                    dsimp only at y8
                    have hli := H19.out.li (m' + 1) _ HL7.out
                    dsimp only at hli
                    have HSP := hid (spoil_any ao7 c7 h7 n7 Y7 len7 _ 77 wr hli.2.1 (by have := hli.2.2.1; omega) (fun e he => by have := hli.2.2.2.1 e he; omega) hli.1)
                    clear hcell8 hli
                    go_wp2_with (
                      go_at_call 33
                      refine HSP.out.mono ?_
                      rintro e w20 ⟨rfl, C20, hs20⟩
                      have H20 := hid (H19.out.spoil HL7.out hs20).1
                      clear hs20)
                    clear y8
                    go_roundw
                    case rel => first | exact ⟨k + 1, t1', t2', E, g15, C20, _, m' + 2, lc8, _, ra15, rc15, _, by omega, rfl, rfl, by go_num, hid ⟨H20.out, HLT.out, HRT.out, HM3.out, HWE.out.mono (by omega)⟩⟩ | ((repeat apply Exists.intro); exact ⟨⟨k + 1, t1', t2', E, g15, C20, _, m' + 2, lc8, _, ra15, rc15, _, by omega, rfl, rfl, by go_num, hid ⟨H20.out, HLT.out, HRT.out, HM3.out, HWE.out.mono (by omega)⟩⟩, rfl⟩)
                    case measure => simp [intOf]; omega
                  · go_wp2
                    go_roundw
                    case rel => first | exact ⟨k + 1, t1', t2', E, g15, C15, _, m' + 2, lc8, _, ra15, rc15, _, by omega, rfl, rfl, by go_num, hid ⟨H19.out, HLT.out, HRT.out, HM3.out, HWE.out.mono (by omega)⟩⟩ | ((repeat apply Exists.intro); exact ⟨⟨k + 1, t1', t2', E, g15, C15, _, m' + 2, lc8, _, ra15, rc15, _, by omega, rfl, rfl, by go_num, hid ⟨H19.out, HLT.out, HRT.out, HM3.out, HWE.out.mono (by omega)⟩⟩, rfl⟩)
                    case measure => simp [intOf]; omega
      · have hm3 : m ≤ 120 := by have := HR.out.2.2.2.1; omega
        have hk40 : k ≤ 40 := by omega
        have HLS := hid (And.intro (show ls.length = m from HR.out.2.1) (show rs.length = k from HR.out.2.2.1))
        have HWE := hid (HR.out.2.2.2.2)
        have HA := hid HR.out.1
        have hgd : ¬ (k : Int) < (xs.length : Int) := by omega
        clear HR HSM HS
        go_upto_region 36 with fail
        clear hgd
        go_wp2_with fail
        go_loopw [22] (fun ix wq => ∃ (i : Nat) (C : Nat → List Int), i ≤ m ∧ ix = .int .i64 i ∧ Hid (Ow w wq d1 t1 D d2 t2 D g C (.slice la m lc) m ls (.slice ra k rc) rs ∧ SpL C ls i)) (fun ix _ => m - (intOf ix).toNat)
        case atStart => exact ⟨0, C, Nat.zero_le _, rfl, hid ⟨HA.out, fun j x hj => by omega⟩⟩
        case round =>
          clear HA
          obtain ⟨i, C1, hi, rfl, HO⟩ := hrel
          by_cases hil : i < m
          · have hil' : (i : Int) < (m : Int) := by omega
            obtain ⟨hb, rfl, hcp, hcell⟩ := HO.out.1.atL HLS.out.1 (by omega)
            obtain ⟨x, hx⟩ : ∃ x, ls[i]? = some x := ⟨_, List.getElem?_eq_getElem (by have := HLS.out.1; omega)⟩
            have y0 := hcell i x hx
            have hli := HO.out.1.li i x hx
            have HSP := hid (spoil_any x.ao x.c x.h x.n x.Y x.len C1 ((i : Int) + 1) wr hli.2.1 (by have := hli.2.2.1; omega) (fun e he => by have := hli.2.2.2.1 e he; omega) hli.1)
            have hu : IntKind.u8.wrap ((i : Int) + 1) = (i : Int) + 1 := u8_small (by omega) (by omega)
            have HX := hid hx
            clear hcell hli hx hcp
            go_wp2_with (
              go_at_call 33
              refine HSP.out.mono ?_
              rintro e w5 ⟨rfl, C5, hs5⟩
              have H5 := hid (HO.out.1.spoilL HX.out hs5 HO.out.2)
              clear hs5)
            clear y0
            go_roundw
            case rel => first | exact ⟨i + 1, C5, by omega, by go_num, H5⟩ | ((repeat apply Exists.intro); exact ⟨⟨i + 1, C5, by omega, by go_num, H5⟩, rfl⟩)
            case measure => simp [intOf]; omega
          · obtain rfl : m = i := by omega
            clear hil hi
            go_wp2_with fail
            go_loopw [23] (fun ix wq => ∃ (i : Nat) (C : Nat → List Int), i ≤ k ∧ ix = .int .i64 i ∧ Hid (Ow w wq d1 t1 D d2 t2 D g C (.slice la m lc) m ls (.slice ra k rc) rs ∧ SpL C ls m ∧ SpR C rs i)) (fun ix _ => k - (intOf ix).toNat)
            case atStart => exact ⟨0, C1, Nat.zero_le _, rfl, hid ⟨HO.out.1, HO.out.2, fun j x hj => by omega⟩⟩
            case round =>
              clear HO
              obtain ⟨i, C2, hi, rfl, HO⟩ := hrel
              by_cases hil : i < k
              · have hil' : (i : Int) < (k : Int) := by omega
                obtain ⟨hb, rfl, hcp, -⟩ := HO.out.1.atR HLS.out.2 (by omega)
                obtain ⟨x, hx⟩ : ∃ x, rs[i]? = some x := ⟨_, List.getElem?_eq_getElem (by have := HLS.out.2; omega)⟩
                have hxn := (HO.out.1.ri i x hx).2.1
                have HX := hid hx
                obtain ⟨nx, hnx⟩ : ∃ n, n = x.n := ⟨_, rfl⟩
                have HNX := hid hnx
                rw [← hnx] at hxn
                have hu : IntKind.u8.wrap ((i : Int) + 150) = (i : Int) + 150 := u8_small (by omega) (by omega)
                clear hx hnx
                go_wp2_with fail
                go_loopw [24] (fun ix wq => ∃ (p : Nat) (C : Nat → List Int), p ≤ nx ∧ ix = .int .i64 p ∧ Hid (Ow w wq d1 t1 D d2 t2 D g C (.slice la m lc) m ls (.slice (some ⟨hb, 0, none⟩) k rc) rs ∧ SpL C ls m ∧ SpR C rs i ∧ ∀ q, q < p → (C x.y)[q]? = some ((i : Int) + 150))) (fun ix _ => nx - (intOf ix).toNat)
                case atStart => exact ⟨0, C2, Nat.zero_le _, rfl, hid ⟨HO.out.1, HO.out.2.1, HO.out.2.2, fun q hq => by omega⟩⟩
                case round =>
                  clear HO
                  obtain ⟨p, C3, hp, rfl, HO⟩ := hrel
                  obtain ⟨hb2, e2, hcp2, hcell⟩ := HO.out.1.atR HLS.out.2 (by omega)
                  injection e2 with e2
                  injection e2 with e2
                  subst e2
                  have y0 := hcell i x HX.out
                  rw [← HNX.out] at y0
                  clear hcell hcp2
                  by_cases hpl : p < nx
                  · have hpl' : (p : Int) < (nx : Int) := by omega
                    obtain ⟨q1, ⟨u, q2⟩, q3, C4, q4⟩ := HO.out.1.rowByte HX.out (by rw [← HNX.out]; exact hpl) ((i : Int) + 150) HO.out.2.1 HO.out.2.2.1 HO.out.2.2.2
                    rw [q1] at y0
                    have HN := hid q4
                    clear q4 q1 HO
                    go_wp2
                    clear y0 q2 q3
                    go_roundw
                    case rel => first | exact ⟨p + 1, C4, by omega, by go_num, HN⟩ | ((repeat apply Exists.intro); exact ⟨⟨p + 1, C4, by omega, by go_num, HN⟩, rfl⟩)
                    case measure => simp [intOf]; omega
                  · have HN := hid (And.intro HO.out.1 (And.intro HO.out.2.1 (HO.out.1.rowEnd HX.out HO.out.2.2.1 (fun q hq => HO.out.2.2.2 q (by rw [← HNX.out] at hq; omega)))))
                    clear HO
                    go_wp2
                    clear y0
                    go_roundw
                    case rel => first | exact ⟨i + 1, C3, by omega, by go_num, HN⟩ | ((repeat apply Exists.intro); exact ⟨⟨i + 1, C3, by omega, by go_num, HN⟩, rfl⟩)
                    case measure => simp [intOf]; omega
              · obtain rfl : k = i := by omega
                clear hil hi
                rename World => wE
                go_upto_region 47 with fail
                refine cutG (fun W => Ow w W d1 t1 D d2 t2 D g C2 (.slice la m lc) m ls (.slice ra k rc) rs ∧ SpL C2 ls m ∧ SpR C2 rs k) HO.out ?_
                intro WE hWE
                have HQ := hid hWE
                clear hWE HO
                go_wp2_with fail
                go_loopw [25] (fun ix wq => ∃ (a : Nat), a ≤ m ∧ ix = .int .i64 a ∧ Hid (Below WE.heap.size WE wq)) (fun ix _ => m - (intOf ix).toNat)
                case atStart => exact ⟨0, Nat.zero_le _, rfl, hid (Below.refl _ _)⟩
                case round =>
                  obtain ⟨a, ha, rfl, HB⟩ := hrel
                  by_cases hal : a < m
                  · have hal' : (a : Int) < (m : Int) := by omega
                    obtain ⟨hb, rfl, hcp, hcell⟩ := HQ.out.1.atL HLS.out.1 (by omega)
                    obtain ⟨x, hx⟩ : ∃ x, ls[a]? = some x := ⟨_, List.getElem?_eq_getElem (by have := HLS.out.1; omega)⟩
                    have hli := HQ.out.1.li a x hx
                    have HY := hid (hcell a x hx)
                    obtain ⟨nx, hnx⟩ : ∃ n, n = x.n := ⟨_, rfl⟩
                    have hxn := hli.2.2.1
                    rw [← hnx] at hxn HY
                    have HNX := hid hnx
                    have HLI := hid hli
                    clear hcell hli hx hnx
                    have yk := fun (W : World) (h : Below WE.heap.size WE W) => (h.cell (World.block_lt_of_cell? _ _ HY.out)).trans HY.out
                    have HYK := hid yk
                    clear yk
                    have y0 := HYK.out _ HB.out
                    go_wp2_with fail
                    go_loopw [26] (fun ix wq => ∃ (e : Nat), e ≤ nx ∧ ix = .int .i64 e ∧ Hid (Below WE.heap.size WE wq)) (fun ix _ => nx - (intOf ix).toNat)
                    case atStart => exact ⟨0, Nat.zero_le _, rfl, HB⟩
                    case round =>
                      clear y0 HB
                      obtain ⟨e, he, rfl, HB⟩ := hrel
                      have y0 := HYK.out _ HB.out
                      by_cases hel : e < nx
                      · have hel' : (e : Int) < (nx : Int) := by omega
                        have hao := HLI.out.2.1 (by rw [← HNX.out]; omega)
                        have hc1 := HLI.out.1.c1 e (by rw [← HNX.out]; exact hel)
                        have hct := HLI.out.1.ct e (by rw [← HNX.out]; exact hel)
                        have hln := HLI.out.2.2.2.1 e (by rw [← HNX.out]; exact hel)
                        rw [hao] at y0
                        have y1 := (HB.out.cell (World.block_lt_of_cell? _ _ hc1)).trans hc1
                        have HG := hid (gr_below (gr_full hct.1 hct.2 (by omega)) HB.out)
                        obtain ⟨nb, hnb⟩ : ∃ n, n = x.len e := ⟨_, rfl⟩
                        rw [← hnb] at y1 hln HG
                        clear hao hc1 hct hnb
                        go_wp2_with fail
                        go_loopw [27, 28] (fun v27 ix wq => ∃ (z : Nat) (vo : Option Addr) (vc : Nat) (cs : List Value), z ≤ 70 ∧ v27 = .slice vo (nb + z) vc ∧ ix = .int .i64 z ∧ Hid (Below WE.heap.size WE wq ∧ Gr wq WE.heap.size 5 1 (.slice vo (nb + z) vc) (nb + z) cs)) (fun _ ix _ => 70 - (intOf ix).toNat)
                        case atStart => exact ⟨0, _, _, _, Nat.zero_le _, rfl, rfl, hid ⟨HB.out, HG.out⟩⟩
                        case round =>
                          clear y0 y1 HB HG
                          rename World => wz
                          obtain ⟨z, vo, vc, cs, hz, rfl, rfl, HZ⟩ := hrel
                          by_cases hzl : z < 70
                          · have hzl' : (z : Int) < 70 := by omega
                            have HZS := hid (show WE.heap.size ≤ (wz.alloc (.cells #[.int .u8 78] 5)).heap.size by have := HZ.out.1.size; simp; omega)
                            go_wp2_with (
                              at_builtin
                              refine wpList_append_gr _ rfl (.tmp 234) (.tmp 235) 27 5 (.int .u8 0) 1 1 rfl Tryz.underlying27 Tryz.info5h rfl (by decide) WE.heap.size _ (nb + z) cs rfl (Gr.alloc HZ.out.2 _) wz.heap.size 1 [.int .u8 78] rfl (rf_one wz 5 _ rfl) (by omega) (by unfold maxLen; omega) HZS.out ?_
                              intro ao7 c7 w7 hown hwro
                              have H7 := hid (And.intro (gr_more HZ.out.1 hwro.out) (show Gr w7 WE.heap.size 5 1 (.slice ao7 (nb + (z + 1)) c7) (nb + (z + 1)) _ from .inl hown.out))
                              clear hown hwro)
                            go_roundw
                            case rel => first | exact ⟨z + 1, ao7, c7, _, by omega, rfl, by go_num, H7⟩ | ((repeat apply Exists.intro); exact ⟨⟨z + 1, ao7, c7, _, by omega, rfl, by go_num, H7⟩, rfl⟩)
                            case measure => simp [intOf]; omega
                          · have H7 := hid HZ.out.1
                            clear HZ
                            go_wp2
                            go_roundw
                            case rel => first | exact ⟨e + 1, by omega, by go_num, H7⟩ | ((repeat apply Exists.intro); exact ⟨⟨e + 1, by omega, by go_num, H7⟩, rfl⟩)
                            case measure => simp [intOf]; omega
                      · go_wp2
                        clear y0
                        go_roundw
                        case rel => first | exact ⟨a + 1, by omega, by go_num, HB⟩ | ((repeat apply Exists.intro); exact ⟨⟨a + 1, by omega, by go_num, HB⟩, rfl⟩)
                        case measure => simp [intOf]; omega
                  · clear ha
                    go_wp2_with fail
                    go_loopw [29] (fun ix wq => ∃ (a : Nat), a ≤ k ∧ ix = .int .i64 a ∧ Hid (Below WE.heap.size WE wq)) (fun ix _ => k - (intOf ix).toNat)
                    case atStart => exact ⟨0, Nat.zero_le _, rfl, HB⟩
                    case round =>
                      clear HB
                      obtain ⟨a2, ha2, rfl, HB⟩ := hrel
                      by_cases hal2 : a2 < k
                      · have hal2' : (a2 : Int) < (k : Int) := by omega
                        obtain ⟨hb2, rfl, hcp2, hcell⟩ := HQ.out.1.atR HLS.out.2 (by omega)
                        obtain ⟨x, hx⟩ : ∃ x, rs[a2]? = some x := ⟨_, List.getElem?_eq_getElem (by have := HLS.out.2; omega)⟩
                        have hri := HQ.out.1.ri a2 x hx
                        have hc0 := hcell a2 x hx
                        have y0 := (HB.out.cell (World.block_lt_of_cell? _ _ hc0)).trans hc0
                        obtain ⟨cs0, hg0⟩ := gr_row hri.1 hri.2.1
                        have HG := hid (gr_below hg0 HB.out)
                        have hxn := hri.2.1
                        obtain ⟨aox, cx, nx, yx⟩ := x
                        dsimp only at y0 HG hxn
                        clear hcell hri hx hc0 hg0
                        go_wp2_with fail
                        go_loopw [30, 31] (fun v30 ix wq => ∃ (z : Nat) (vo : Option Addr) (vc : Nat) (cs : List Value), z ≤ 70 ∧ v30 = .slice vo (nx + z) vc ∧ ix = .int .i64 z ∧ Hid (Below WE.heap.size WE wq ∧ Gr wq WE.heap.size 5 1 (.slice vo (nx + z) vc) (nx + z) cs)) (fun _ ix _ => 70 - (intOf ix).toNat)
                        case atStart => exact ⟨0, _, _, _, Nat.zero_le _, rfl, rfl, hid ⟨HB.out, HG.out⟩⟩
                        case round =>
                          clear y0 HB HG
                          rename World => wz
                          obtain ⟨z, vo, vc, cs, hz, rfl, rfl, HZ⟩ := hrel
                          by_cases hzl : z < 70
                          · have hzl' : (z : Int) < 70 := by omega
                            have HZS := hid (show WE.heap.size ≤ (wz.alloc (.cells #[.int .u8 79] 5)).heap.size by have := HZ.out.1.size; simp; omega)
                            go_wp2_with (
                              at_builtin
                              refine wpList_append_gr _ rfl (.tmp 251) (.tmp 252) 27 5 (.int .u8 0) 1 1 rfl Tryz.underlying27 Tryz.info5h rfl (by decide) WE.heap.size _ (nx + z) cs rfl (Gr.alloc HZ.out.2 _) wz.heap.size 1 [.int .u8 79] rfl (rf_one wz 5 _ rfl) (by omega) (by unfold maxLen; omega) HZS.out ?_
                              intro ao7 c7 w7 hown hwro
                              have H7 := hid (And.intro (gr_more HZ.out.1 hwro.out) (show Gr w7 WE.heap.size 5 1 (.slice ao7 (nx + (z + 1)) c7) (nx + (z + 1)) _ from .inl hown.out))
                              clear hown hwro)
                            go_roundw
                            case rel => first | exact ⟨z + 1, ao7, c7, _, by omega, rfl, by go_num, H7⟩ | ((repeat apply Exists.intro); exact ⟨⟨z + 1, ao7, c7, _, by omega, rfl, by go_num, H7⟩, rfl⟩)
                            case measure => simp [intOf]; omega
                          · have H7 := hid HZ.out.1
                            clear HZ
                            go_wp2
                            go_roundw
                            case rel => first | exact ⟨a2 + 1, by omega, by go_num, H7⟩ | ((repeat apply Exists.intro); exact ⟨⟨a2 + 1, by omega, by go_num, H7⟩, rfl⟩)
                            case measure => simp [intOf]; omega
                      · clear ha2
                        go_wp2_with fail
                        go_loopw [32] (fun ix wq => ∃ (a : Nat), a ≤ m ∧ ix = .int .i64 a ∧ Hid (Below WE.heap.size WE wq)) (fun ix _ => m - (intOf ix).toNat)
                        case atStart => exact ⟨0, Nat.zero_le _, rfl, HB⟩
                        case round =>
                          clear HB
                          obtain ⟨a3, ha3, rfl, HB⟩ := hrel
                          by_cases hal3 : a3 < m
                          · have hal3' : (a3 : Int) < (m : Int) := by omega
                            obtain ⟨hb3, rfl, hcp3, hcell⟩ := HQ.out.1.atL HLS.out.1 (by omega)
                            obtain ⟨x, hx⟩ : ∃ x, ls[a3]? = some x := ⟨_, List.getElem?_eq_getElem (by have := HLS.out.1; omega)⟩
                            have hli := HQ.out.1.li a3 x hx
                            have hsp := HQ.out.2.1 a3 x hal3 hx
                            have HY := hid (hcell a3 x hx)
                            obtain ⟨nx, hnx⟩ : ∃ n, n = x.n := ⟨_, rfl⟩
                            have hxn := hli.2.2.1
                            rw [← hnx] at hxn HY hsp
                            have HNX := hid hnx
                            have HLI := hid (And.intro hli hsp)
                            have hu : IntKind.u8.wrap ((a3 : Int) + 1) = (a3 : Int) + 1 := u8_small (by omega) (by omega)
                            clear hcell hli hx hnx hsp
                            have HYK := hid (fun (W : World) (h : Below WE.heap.size WE W) => (h.cell (World.block_lt_of_cell? _ _ HY.out)).trans HY.out)
                            have y0 := HYK.out _ HB.out
                            go_wp2_with fail
                            go_loopw [33] (fun ix wq => ∃ (e : Nat), e ≤ nx ∧ ix = .int .i64 e ∧ Hid (Below WE.heap.size WE wq)) (fun ix _ => nx - (intOf ix).toNat)
                            case atStart => exact ⟨0, Nat.zero_le _, rfl, HB⟩
                            case round =>
                              clear y0 HB
                              obtain ⟨e, he, rfl, HB⟩ := hrel
                              have y0 := HYK.out _ HB.out
                              by_cases hel : e < nx
                              · have hel' : (e : Int) < (nx : Int) := by omega
                                have hao := HLI.out.1.2.1 (by rw [← HNX.out]; omega)
                                have hc1 := HLI.out.1.1.c1 e (by rw [← HNX.out]; exact hel)
                                have hct := HLI.out.1.1.ct e (by rw [← HNX.out]; exact hel)
                                have hln := HLI.out.1.2.2.2.1 e (by rw [← HNX.out]; exact hel)
                                rw [HLI.out.2 e hel] at hct
                                rw [hao] at y0
                                have HYA := hid (fun (W : World) (h : Below WE.heap.size WE W) => And.intro ((HYK.out W h).trans (by rw [hao])) ((h.cell (World.block_lt_of_cell? _ _ hc1)).trans hc1))
                                obtain ⟨nb, hnb⟩ : ∃ n, n = x.len e := ⟨_, rfl⟩
                                rw [← hnb] at hln hct HYA
                                have HCT := hid (fun (W : World) (h : Below WE.heap.size WE W) (j : Nat) (hj : j < nb) => (h.cell (World.block_lt_of_cell? _ _ (Own.cell hct.1 j ((a3 : Int) + 1) (by simp [hj])))).trans (Own.cell hct.1 j ((a3 : Int) + 1) (by simp [hj])))
                                clear hao hc1 hct hnb y0
                                obtain ⟨y0, y1⟩ := HYA.out _ HB.out
                                go_wp2_with fail
                                go_loopw [34] (fun ix wq => ∃ (j : Nat), j ≤ nb ∧ ix = .int .i64 j ∧ Hid (Below WE.heap.size WE wq)) (fun ix _ => nb - (intOf ix).toNat)
                                case atStart => exact ⟨0, Nat.zero_le _, rfl, HB⟩
                                case round =>
                                  clear y0 y1 HB
                                  obtain ⟨j, hj, rfl, HB⟩ := hrel
                                  obtain ⟨y0, y1⟩ := HYA.out _ HB.out
                                  by_cases hjl : j < nb
                                  · have hjl' : (j : Int) < (nb : Int) := by omega
                                    have y2 := HCT.out _ HB.out j hjl
                                    go_wp2
                                    clear y0 y1 y2
                                    go_roundw
                                    case rel => first | exact ⟨j + 1, by omega, by go_num, HB⟩ | ((repeat apply Exists.intro); exact ⟨⟨j + 1, by omega, by go_num, HB⟩, rfl⟩)
                                    case measure => simp [intOf]; omega
                                  · go_wp2
                                    clear y0 y1
                                    go_roundw
                                    case rel => first | exact ⟨e + 1, by omega, by go_num, HB⟩ | ((repeat apply Exists.intro); exact ⟨⟨e + 1, by omega, by go_num, HB⟩, rfl⟩)
                                    case measure => simp [intOf]; omega
                              · go_wp2
                                clear y0
                                go_roundw
                                case rel => first | exact ⟨a3 + 1, by omega, by go_num, HB⟩ | ((repeat apply Exists.intro); exact ⟨⟨a3 + 1, by omega, by go_num, HB⟩, rfl⟩)
                                case measure => simp [intOf]; omega
                          · clear ha3
                            go_wp2_with fail
                            go_loopw [35] (fun ix wq => ∃ (a : Nat), a ≤ k ∧ ix = .int .i64 a ∧ Hid (Below WE.heap.size WE wq)) (fun ix _ => k - (intOf ix).toNat)
                            case atStart => exact ⟨0, Nat.zero_le _, rfl, HB⟩
                            case round =>
                              clear HB
                              obtain ⟨a4, ha4, rfl, HB⟩ := hrel
                              by_cases hal4 : a4 < k
                              · have hal4' : (a4 : Int) < (k : Int) := by omega
                                obtain ⟨hb4, rfl, hcp4, hcell⟩ := HQ.out.1.atR HLS.out.2 (by omega)
                                obtain ⟨x, hx⟩ : ∃ x, rs[a4]? = some x := ⟨_, List.getElem?_eq_getElem (by have := HLS.out.2; omega)⟩
                                have hri := HQ.out.1.ri a4 x hx
                                have hsp := HQ.out.2.2 a4 x hal4 hx
                                have hc0 := hcell a4 x hx
                                have hu : IntKind.u8.wrap ((a4 : Int) + 150) = (a4 : Int) + 150 := u8_small (by omega) (by omega)
                                have hxn := hri.2.1
                                obtain ⟨aox, cx, nx, yx⟩ := x
                                dsimp only at hri hsp hc0 hxn
                                have HYK := hid (fun (W : World) (h : Below WE.heap.size WE W) => (h.cell (World.block_lt_of_cell? _ _ hc0)).trans hc0)
                                have HRI := hid (And.intro hri hsp)
                                clear hcell hri hx hc0 hsp
                                have y0 := HYK.out _ HB.out
                                go_wp2_with fail
                                go_loopw [36] (fun ix wq => ∃ (j : Nat), j ≤ nx ∧ ix = .int .i64 j ∧ Hid (Below WE.heap.size WE wq)) (fun ix _ => nx - (intOf ix).toNat)
                                case atStart => exact ⟨0, Nat.zero_le _, rfl, HB⟩
                                case round =>
                                  clear y0 HB
                                  obtain ⟨j, hj, rfl, HB⟩ := hrel
                                  have y0 := HYK.out _ HB.out
                                  by_cases hjl : j < nx
                                  · have hjl' : (j : Int) < (nx : Int) := by omega
                                    obtain ⟨hao, hcl⟩ := row_byte HRI.out.1.1 HRI.out.2 hjl
                                    rw [hao] at y0
                                    have y2 := (HB.out.cell (World.block_lt_of_cell? _ _ hcl)).trans hcl
                                    clear hao hcl
                                    go_wp2
                                    clear y0 y2
                                    go_roundw
                                    case rel => first | exact ⟨j + 1, by omega, by go_num, HB⟩ | ((repeat apply Exists.intro); exact ⟨⟨j + 1, by omega, by go_num, HB⟩, rfl⟩)
                                    case measure => simp [intOf]; omega
                                  · go_wp2
                                    clear y0
                                    go_roundw
                                    case rel => first | exact ⟨a4 + 1, by omega, by go_num, HB⟩ | ((repeat apply Exists.intro); exact ⟨⟨a4 + 1, by omega, by go_num, HB⟩, rfl⟩)
                                    case measure => simp [intOf]; omega
                              · clear ha4
                                have HT := hid (HQ.out.1.below HB.out).tw
                                have HFB := hid (files_bounds HWE.out)
                                have HSB := hid (safe_bounds HWE.out)
                                have HTS := hid (told_small HWE.out)
                                have HPL := hid (show (pendD D).length ≤ 1000 by have h1 := HWE.out.cnt; have h2 := HWE.out.lim; simp [pendD]; omega)
                                clear HQ HB
                                go_wp2_with (first
                                  | (go_at_call 30
                                     refine (tell_dk HT.out.h1 HWE.out (by omega)).mono ?_
                                     rintro e w12 ⟨v12, rfl, ht12, hb12⟩
                                     obtain ⟨⟨b1, k1, b2, k2, b3, k3, rfl, f1, f2, f3⟩⟩ := ht12
                                     have H12 := hid (And.intro (HT.out.below hb12) (⟨⟨_, f1⟩, ⟨_, f2⟩, ln_of_owns f3⟩ : Tl w12 (filesD D) (safeD D) (pendD D) _ _ _))
                                     clear f1 f2 f3 hb12 HT)
                                  | (go_at_call 30
                                     refine (tell_dk H12.out.1.h2 HWE.out (by omega)).mono ?_
                                     rintro e w13 ⟨v13, rfl, ht13, hb13⟩
                                     obtain ⟨⟨c1, l1, c2, l2, c3, l3, rfl, f1, f2, f3⟩⟩ := ht13
                                     have H13 := hid (And.intro (H12.out.1.below hb13) (And.intro (H12.out.2.below hb13) (⟨⟨_, f1⟩, ⟨_, f2⟩, ln_of_owns f3⟩ : Tl w13 (filesD D) (safeD D) (pendD D) _ _ _)))
                                     clear f1 f2 f3 hb13 H12)
                                  | (go_at_call 32
                                     refine (same_yes _ _ _ _ H13.out.2.1 H13.out.2.2 HFB.out.1 HSB.out.1 HPL.out HTS.out.1.2 HTS.out.2.2).mono ?_
                                     rintro e w14 ⟨rfl, hb14⟩
                                     have H14 := hid (H13.out.1.below hb14).hb
                                     clear hb14 H13)
                                  | (go_at_call 8
                                     refine (known_any _).mono ?_
                                     rintro e w15 ⟨rfl, hb15⟩
                                     have HK := hid hb15
                                     clear hb15))
                                go_ret
                                exact ⟨rfl, bel_on H14.out HK.out⟩
  · have HFN := hid (fun W => fresh_no room most W hg)
    clear hg
    go_wp2_with (first
      | (go_at_call 9
         refine (HFN.out _).mono ?_
         rintro e w3 ⟨rfl, e3⟩
         rw [e3]
         clear e3)
      | (go_at_call 8
         refine (known_any _).mono ?_
         rintro e w4 ⟨rfl, hb4⟩
         have HK := hid hb4
         clear hb4))
    go_ret
    exact ⟨rfl, bel_on HW2.out HK.out⟩

end Go.Proofs.YtlmompdfombgeabGreat
