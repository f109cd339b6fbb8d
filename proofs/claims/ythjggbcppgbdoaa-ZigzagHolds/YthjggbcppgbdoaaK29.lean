import Derived.Test.YthjggbcppgbdoaaK28
import Derived.Test.YthjggbcppgbdoaaRows
import Derived.Test.YthjggbcppgbdoaaK24
import Derived.ProofKit
import Derived.OpenShut
import Derived.ShutString
import Derived.ChangeOld
namespace Go.Proofs.Ythjggbcppgbdoaa
open Go.RowKit

set_option maxRecDepth 100000 in
set_option maxHeartbeats 16000000 in
theorem holds_any (sv tv uv : Value) (ys zs us : List Sp) (w : World) (hr : Rf w 6 sv ys.length (ys.flatMap Sp.cl)) (hys : ∀ y ∈ ys, y.key.size ≤ 140737488355328 ∧ y.to.size ≤ 140737488355328 ∧ y.other.size ≤ 140737488355328) (hq : Rf w 6 tv zs.length (zs.flatMap Sp.cl)) (hzs : ∀ y ∈ zs, y.key.size ≤ 140737488355328 ∧ y.to.size ≤ 140737488355328 ∧ y.other.size ≤ 140737488355328) (hu : Rf w 6 uv us.length (us.flatMap Sp.cl)) (hus : ∀ y ∈ us, y.key.size ≤ 140737488355328 ∧ y.to.size ≤ 140737488355328 ∧ y.other.size ≤ 140737488355328) :
    Calls Try.prog 6 #[sv, tv, uv] w fun x w' => x = .returned (.bool true) ∧ Below w.heap.size w w' := by
  obtain ⟨ao, cap, e, -, -⟩ := hr.shape
  obtain ⟨ap, caq, e', -, -⟩ := hq.shape
  obtain ⟨aq, car, e'', -, -⟩ := hu.shape
  have KN := hid known_any
  have MU := hid (much_or sv ys w hr hys)
  have MV := hid (fun W (hb : Below w.heap.size w W) => much_or tv zs W (hq.below hb) hzs)
  have MX := hid (fun W (hb : Below w.heap.size w W) => much_or uv us W (hu.below hb) hus)
  have HR := hid hr
  have HQ := hid hq
  have HU := hid hu
  subst e e' e''
  clear hr hys hq hzs hu hus
  go_enter Try.func6, Try.ntmps6
  go_upto_region 3 with (first
    | (go_at_call 9
       refine MU.out.mono ?_
       rintro e w1 (⟨rfl, hb⟩ | ⟨rfl, hsm, hb⟩)
       all_goals first
         | (have SM := hid hsm
            have B1 := hid hb
            clear hsm hb MU)
         | (have B1 := hid hb
            clear hb MU MV MX))
    | (go_at_call 9
       refine (MV.out w1 B1.out).mono ?_
       rintro e w5 (⟨rfl, hb⟩ | ⟨rfl, hsm, hb⟩)
       all_goals first
         | (have SN := hid hsm
            have B5 := hid (below_on B1.out hb)
            clear hsm hb MV B1)
         | (have B5 := hid (below_on B1.out hb)
            clear hb MV B1 MX))
    | (go_at_call 9
       refine (MX.out w5 B5.out).mono ?_
       rintro e w6 (⟨rfl, hb⟩ | ⟨rfl, hsm, hb⟩)
       all_goals first
         | (have SX := hid hsm
            have B6 := hid (below_on B5.out hb)
            clear hsm hb MX B5)
         | (have B6 := hid (below_on B5.out hb)
            clear hb MX B5))
    | (go_at_call 10
       refine (KN.out _).mono ?_
       rintro e wk ⟨rfl, hbk⟩
       first
         | (have BK := hid (below_on B1.out hbk)
            clear hbk)
         | (have BK := hid (below_on B5.out hbk)
            clear hbk)
         | (have BK := hid (below_on B6.out hbk)
            clear hbk)))
  · go_ret
    exact ⟨rfl, BK.out⟩
  · go_ret
    exact ⟨rfl, BK.out⟩
  · go_ret
    exact ⟨rfl, BK.out⟩
  have NW := hid (vnew w6)
  go_upto_region 6 with (
    go_at_call 11
    refine NW.out.mono ?_
    rintro e w2 ⟨rfl, hz, hb, hsz⟩
    have H2 := hid (show Hs w w6.heap.size [] false 0 (fun j => j = w6.heap.size) w2 from ⟨hz, fun j hj => by subst hj; omega, fun j hj => by subst hj; exact B6.out.size, ⟨by simp, fun e he => (by cases he)⟩, below_on B6.out hb⟩)
    clear hz hb hsz NW)
  clear B6
  generalize w6.heap.size = p at H2 ⊢
  go_wp2_with fail
  go_loopw [8] (fun i wr => ∃ (k : Nat) (V : List Pl) (F : Nat → Prop), i = .int .i64 k ∧ k ≤ ys.length ∧ Hid (Hs w p V false k F wr)) (fun i _ => ys.length - (intOf i).toNat)
  case atStart => exact ⟨0, _, _, rfl, Nat.zero_le _, H2⟩
  case round =>
    obtain ⟨k, V, F, rfl, hk, hp⟩ := hrel
    have hks := SM.out.n
    by_cases h1 : k < ys.length
    · clear HQ HU SN SX
      obtain ⟨g, off, cap', e, -, -, hcell⟩ := (HR.out.below hp.out.be).lits (by omega) (by omega)
      injection e with e1 _ e3
      subst e1 e3
      obtain ⟨x, hxe⟩ : ∃ x, ys[k] = x := ⟨_, rfl⟩
      have hxk := SM.out.k x (by rw [← hxe]; exact List.getElem_mem h1)
      have hfl : ∀ c u, c < 6 → x.cl[c]? = some u → (ys.flatMap Sp.cl)[k * 6 + c]? = some u := fun c u hc hu => by
        rw [flat_get Sp.cl 6 Sp.len ys k c hc, List.getElem?_eq_getElem h1, hxe]
        exact hu
      have v0 := hcell _ _ (hfl 0 _ (by omega) rfl)
      have v1 := hcell _ _ (hfl 1 _ (by omega) rfl)
      have v2 := hcell _ _ (hfl 2 _ (by omega) rfl)
      have v3 := hcell _ _ (hfl 3 _ (by omega) rfl)
      have v4 := hcell _ _ (hfl 4 _ (by omega) rfl)
      have v5 := hcell _ _ (hfl 5 _ (by omega) rfl)
      simp only [Nat.add_zero, ← Nat.add_assoc] at v0 v1 v2 v3 v4 v5
      obtain ⟨xk, xv, xn, key, to, oth⟩ := x
      simp only at hxk v0 v1 v2 v3 v4 v5
      have h1k : (k : Int) < ys.length := by omega
      have hkb : k + 1 ≤ 200 := by omega
      have T1 := hid (hs_write (x := ⟨xk, xv, xn, key, to, oth⟩) hp.out (by omega) hxk.1)
      clear hcell hfl hxe hxk hks
      go_wp2_with (
        go_at_call 28
        refine T1.out.mono ?_
        rintro e w3 ⟨rfl, ⟨F', h3, -⟩, -⟩
        have H3 := hid h3
        clear h3 T1)
      go_roundw
      case rel => exact ⟨k + 1, _, _, by go_num, by omega, H3⟩
      case measure => simp [intOf]; omega
    · have h1k : (ys.length : Int) ≤ k := by omega
      go_upto_region 11 with fail
      have RW := hid (hp_new wr (.cells #[.slice ap zs.length caq, .slice aq us.length car] 22))
      have HS := hid ((hp.out.below (below_new wr (.cells #[.slice ap zs.length caq, .slice aq us.length car] 22))).mono (show k ≤ 200 by omega))
      have NF := hid (show ¬ F wr.heap.size from fun hf => by have := hp.out.fl _ hf; omega)
      have BK2 := hid (show ∀ W, Below w.heap.size w W → _ from fun W hb => known_any W)
      clear hp hk hks h1 h1k HR SM H2 BK2
      generalize wr.alloc (.cells #[.slice ap zs.length caq, .slice aq us.length car] 22) = W10 at RW HS ⊢
      generalize wr.heap.size = rb at RW NF ⊢
      go_wp2_with fail
      go_loopw [10] (fun i wr => ∃ (r : Nat) (V2 : List Pl) (F2 : Nat → Prop), i = .int .i64 r ∧ r ≤ 2 ∧ Hid (Hs w p V2 false (200 + 201 * r) F2 wr ∧ wr.heap[rb]? = some (.cells #[.slice ap zs.length caq, .slice aq us.length car] 22 (0, 0)) ∧ ¬ F2 rb)) (fun i _ => 2 - (intOf i).toNat)
      case atStart => exact ⟨0, _, _, rfl, by omega, hid ⟨HS.out, RW.out, NF.out⟩⟩
      case round =>
        obtain ⟨r, V2, F2, rfl, hr2, h2⟩ := hrel
        by_cases h12 : r < 2
        · have h12k : (r : Int) < 2 := by omega
          obtain ⟨ls, al, cl, HL, SL, HCR⟩ : ∃ (ls : List Sp) (al : Option Addr) (cl : Nat), Hid (Rf w 6 (.slice al ls.length cl) ls.length (ls.flatMap Sp.cl)) ∧ Hid (Sm ls) ∧ Hid (∀ W : World, W.heap[rb]? = some (.cells #[.slice ap zs.length caq, .slice aq us.length car] 22 (0, 0)) → W.cell? ⟨rb, r, none⟩ = some (.slice al ls.length cl)) := by
            rcases (show r = 0 ∨ r = 1 by omega) with rfl | rfl
            · exact ⟨zs, ap, caq, HQ, SN, hid (fun W hc => (cells2 hc).1)⟩
            · exact ⟨us, aq, car, HU, SX, hid (fun W hc => (cells2 hc).2)⟩
          have HB := hid (show r ≤ 1 ∧ ls.length ≤ 200 from ⟨by omega, SL.out.n⟩)
          have A1 := hid (vdel p ⟨#[]⟩ V2 false F2 wr h2.out.1.z (by have := h2.out.1.bd.n; have := HB.out; omega))
          have RG := hid (fun W => srange_any (some ⟨p, 0, none⟩) ⟨#[]⟩ ⟨#[]⟩ W (by decide) (by decide))
          have S1 := hid (fun W => ssnap_any (some ⟨p, 0, none⟩) ⟨#[]⟩ W (by decide))
          clear HS RW NF HQ HU SN SX KN
          go_upto_region 16 with (first
            | (go_at_call 17
               refine A1.out.mono ?_
               rintro e w3 ⟨rfl, hz, hk3⟩
               have H3 := hid (h2.out.1.keptF hk3 hz (del_bd h2.out.1.bd (by decide)))
               have R3 := hid (hp_kept h2.out.2.1 hk3 h2.out.2.2)
               have AB := hid (above_all (m := false) h2.out.1.z.sorted)
               clear hz hk3 A1)
            | (go_at_call 19
               refine (RG.out w3).mono ?_
               rintro e w4 ⟨g1, g2, gp, ge, rfl, hs, hb, -, -, -, -⟩
               have H4 := hid (H3.out.below hb)
               have R4 := hid (hp_below R3.out hb (hp_lt R3.out))
               have PP := hid (show Calls Try.prog 29 #[itS g1 g2] w4 (PaP w4 (rd (rdelL ⟨#[]⟩ false V2))) from by
                 have := pairs_range H4.out.z H4.out.fl hs (by have := H4.out.bd.n; have := HB.out; omega) (fun e he => by have := H4.out.bd.k e he; omega) (by decide) (by decide)
                 rw [range_all] at this
                 exact this)
               clear hb hs RG H3 R3)
            | (go_at_call 29
               refine PP.out.mono ?_
               rintro e w5 ⟨ka, va, rfl, hk, hv, ho, hb⟩
               have MK := hid (hs_mark (rb := rb) (rows := #[.slice ap zs.length caq, .slice aq us.length car]) (H4.out.below hb) ⟨hk, hv, fun j hj => ⟨fun hf => by have a := H4.out.fl j hf; have b := (ho j hj).1; omega, (ho j hj).2⟩, hp_below R4.out hb (hp_lt R4.out), h2.out.2.2⟩ rfl AB.out (by have := HB.out; omega))
               obtain ⟨aok, capk, e1, -, -⟩ := hk.shape
               obtain ⟨apk, caqk, e2, -, -⟩ := hv.shape
               generalize rd (rdelL ⟨#[]⟩ false V2) = T at MK e1 e2
               generalize T.length = tl at e1 e2
               subst e1 e2
               clear hk hv ho hb PP H4 R4 AB))
          go_upto_region 18 with (first
            | (go_at_call 26
               refine MK.out.mono ?_
               rintro e w6 ⟨rfl, h6⟩
               have H6 := hid h6
               have BU := hid (vbusy p _ _ w6 h6.hs.z)
               have MM := hid (vmarked p _ true _ w6 h6.hs.z)
               clear h6 MK)
            | (go_at_call 26
               refine BU.out.mono ?_
               rintro e w7 ⟨rfl, e7⟩
               rw [e7]
               clear e7 w7 BU)
            | (go_at_call 25
               refine MM.out.mono ?_
               rintro e w7 ⟨rfl, e7⟩
               rw [e7]
               clear e7 w7 MM))
          have c6 := HCR.out w6 H6.out.hr.rw_
          clear h2 HCR
          go_wp2_with fail
          go_loopw [14] (fun i wr => ∃ (k : Nat) (V6 : List Pl) (F6 : Nat → Prop), i = .int .i64 k ∧ k ≤ ls.length + 1 ∧ Hid (Hi w p (.slice aok tl capk) (.slice apk tl caqk) T rb #[.slice ap zs.length caq, .slice aq us.length car] (200 + 201 * r + k) V6 F6 wr)) (fun i _ => ls.length + 1 - (intOf i).toNat)
          case atStart => exact ⟨0, _, _, rfl, by omega, hid (by simpa using H6.out)⟩
          case round =>
            obtain ⟨k, V6, F6, rfl, hk6, hi⟩ := hrel
            have P1 := hid (show ∀ W g1 g2 gp, Below wr.heap.size wr W → SnB W g1 g2 gp (some ⟨p, 0, none⟩) (bhd ⟨#[]⟩) → Calls Try.prog 29 #[itS g1 g2] W (PaP W T) from fun W g1 g2 gp hb hs => by
              have := hi_snap (hi.out.below hb) (by have := HB.out; omega) hs (by decide)
              rw [filt_all hi.out.ab] at this
              exact this)
            clear H6 c6
            by_cases h3 : k ≤ ls.length
            · by_cases h2 : k < ls.length
              · as_aux_lemma =>
                obtain ⟨g, off, cap', e, -, -, hcell⟩ := (HL.out.below hi.out.hs.be).lits (by omega) (by omega)
                injection e with e1 _ e3
                subst e1 e3
                obtain ⟨x, hxe⟩ : ∃ x, ls[k] = x := ⟨_, rfl⟩
                have hxk := SL.out.k x (by rw [← hxe]; exact List.getElem_mem h2)
                have hfl : ∀ c u, c < 6 → x.cl[c]? = some u → (ls.flatMap Sp.cl)[k * 6 + c]? = some u := fun c u hc hu => by
                  rw [flat_get Sp.cl 6 Sp.len ls k c hc, List.getElem?_eq_getElem h2, hxe]
                  exact hu
                have v0 := hcell _ _ (hfl 0 _ (by omega) rfl)
                have v1 := hcell _ _ (hfl 1 _ (by omega) rfl)
                have v2 := hcell _ _ (hfl 2 _ (by omega) rfl)
                have v3 := hcell _ _ (hfl 3 _ (by omega) rfl)
                have v4 := hcell _ _ (hfl 4 _ (by omega) rfl)
                have v5 := hcell _ _ (hfl 5 _ (by omega) rfl)
                simp only [Nat.add_zero, ← Nat.add_assoc] at v0 v1 v2 v3 v4 v5
                obtain ⟨xk, xv, xn, key, to, oth⟩ := x
                simp only at hxk v0 v1 v2 v3 v4 v5
                have CT := hid (show ∀ W, Below w.heap.size w W → W.cell? ⟨g, off + k * 6 + 4, none⟩ = some (.string to) from fun W hb => by
                  have q := HL.out
                  obtain ⟨g', off', cap'', e, -, -, hc2⟩ := (q.below hb).lits (by omega) (by omega)
                  injection e with e1 _ _
                  injection e1 with e1
                  injection e1 with e4 e5 _
                  subst e4 e5
                  have := hc2 _ _ (hfl 4 _ (by omega) rfl)
                  simpa only [← Nat.add_assoc] using this)
                have h2k : (k : Int) < ls.length := by omega
                have h3k : (k : Int) ≤ ls.length := by omega
                have hkb : k + 1 ≤ 201 := by have := HB.out; omega
                have HXK := hid hxk
                have W1 := hid (show ∀ W, Below wr.heap.size wr W → _ from fun W hb => hi_write (x := ⟨xk, xv, xn, key, to, oth⟩) (hi.out.below hb) (by have := HB.out; omega) hxk.1)
                have S2 := hid (fun W => ssnap_any (some ⟨p, 0, none⟩) to W (by have := hxk.2.1; omega))
                clear hcell hfl hxe hxk
                go_wp2_with (first
                  | (go_at_call 20
                     refine (S1.out wr).mono ?_
                     rintro e w4 ⟨g1, g2, gp, rfl, hs, hb, -, -, -⟩
                     have PP := hid (P1.out w4 g1 g2 gp hb hs)
                     have B4 := hid hb
                     clear hb hs S1)
                  | (go_at_call 29
                     refine PP.out.mono ?_
                     rintro e w5 ⟨k2, u2, rfl, hk, hv, -, hb⟩
                     have B5 := hid (below_on B4.out hb)
                     have M1 := hid (same_any T k2 u2 _ _ w5 hk hv (hi.out.hr.kr.below B5.out) (hi.out.hr.vr.below B5.out) (by have := hi.out.ln; omega))
                     obtain ⟨ao5, cap5, e1, -, -⟩ := hk.shape
                     obtain ⟨ap5, caq5, e2, -, -⟩ := hv.shape
                     generalize T.length = tl at e1 e2
                     subst e1 e2
                     clear hk hv hb PP B4)
                  | (go_at_call 30
                     refine M1.out.mono ?_
                     rintro e w6 ⟨rfl, hb⟩
                     have B6 := hid (below_on B5.out hb)
                     have W2 := hid (W1.out w6 B6.out)
                     obtain ⟨y0, y1, y2, y3, y4, y5⟩ : w6.cell? ⟨g, off + k * 6, none⟩ = some (.int .i64 xk) ∧ w6.cell? ⟨g, off + k * 6 + 1, none⟩ = some (.int .i64 xv) ∧ w6.cell? ⟨g, off + k * 6 + 2, none⟩ = some (.int .i64 xn) ∧ w6.cell? ⟨g, off + k * 6 + 3, none⟩ = some (.string key) ∧ w6.cell? ⟨g, off + k * 6 + 4, none⟩ = some (.string to) ∧ w6.cell? ⟨g, off + k * 6 + 5, none⟩ = some (.string oth) := ⟨(B6.out.cell (p := ⟨g, off + k * 6, none⟩) (World.block_lt_of_cell? _ _ v0)).trans v0, (B6.out.cell (p := ⟨g, off + k * 6 + 1, none⟩) (World.block_lt_of_cell? _ _ v1)).trans v1, (B6.out.cell (p := ⟨g, off + k * 6 + 2, none⟩) (World.block_lt_of_cell? _ _ v2)).trans v2, (B6.out.cell (p := ⟨g, off + k * 6 + 3, none⟩) (World.block_lt_of_cell? _ _ v3)).trans v3, (B6.out.cell (p := ⟨g, off + k * 6 + 4, none⟩) (World.block_lt_of_cell? _ _ v4)).trans v4, (B6.out.cell (p := ⟨g, off + k * 6 + 5, none⟩) (World.block_lt_of_cell? _ _ v5)).trans v5⟩
                     clear v0 v1 v2 v3 v4 v5 hb M1 B5 W1)
                  | (go_at_call 28
                     refine W2.out.mono ?_
                     rintro e w7 ⟨rfl, V7, F7, h7⟩
                     have H7 := hid h7
                     have y4 := CT.out w7 h7.hs.be
                     clear h7 W2)
                  | (go_at_call 20
                     refine (S2.out w7).mono ?_
                     rintro e w8 ⟨g1, g2, gp, rfl, hs, hb, -, -, -⟩
                     have H8 := hid (H7.out.below hb)
                     have PQ := hid (hi_snap H8.out (by have := HB.out; omega) hs (by have := HXK.out.2.1; omega))
                     clear hb hs S2 H7)
                  | (go_at_call 29
                     refine PQ.out.mono ?_
                     rintro e w9 ⟨k2, u2, rfl, hk, hv, -, hb⟩
                     have H9 := hid (H8.out.below hb)
                     have y4 := CT.out w9 H9.out.hs.be
                     have R9 := hid (And.intro hk hv)
                     have BE := hid (behind_rows T _ _ to w9 H9.out.hr.kr H9.out.hr.vr (by have := H9.out.ln; omega) H9.out.so)
                     obtain ⟨ao9, cap9, e1, -, -⟩ := hk.shape
                     obtain ⟨ap9, caq9, e2, -, -⟩ := hv.shape
                     generalize (_ : List (ByteArray × Int)).length = tl at e1 e2
                     subst e1 e2
                     clear hk hv hb PQ H8)
                  | (go_at_call 31
                     refine BE.out.mono ?_
                     rintro e w10 ⟨k3, u3, rfl, hk, hv, hb⟩
                     have H10 := hid (H9.out.below hb)
                     have M2 := hid (same_any (T.filter (fun e => kl to e.1)) _ _ k3 u3 w10 (R9.out.1.below hb) (R9.out.2.below hb) hk hv (Nat.le_trans (List.length_filter_le _ _) (by have := H9.out.ln; omega)))
                     obtain ⟨aot, capt, e1, -, -⟩ := hk.shape
                     obtain ⟨apt, caqt, e2, -, -⟩ := hv.shape
                     generalize (_ : List (ByteArray × Int)).length = tl2 at e1 e2
                     subst e1 e2
                     clear hk hv hb BE R9 H9)
                  | (go_at_call 30
                     refine M2.out.mono ?_
                     rintro e w11 ⟨rfl, hb⟩
                     have H11 := hid (H10.out.below hb)
                     clear hb M2 H10))
                go_roundw
                case rel => exact ⟨k + 1, _, _, by go_num, by omega, H11⟩
                case measure => simp [intOf]; omega
              · as_aux_lemma =>
                have h2k : ¬ (k : Int) < ls.length := by omega
                have h3k : (k : Int) ≤ ls.length := by omega
                have hkb : k + 1 ≤ 201 := by have := HB.out; omega
                go_wp2_with (first
                  | (go_at_call 20
                     refine (S1.out wr).mono ?_
                     rintro e w4 ⟨g1, g2, gp, rfl, hs, hb, -, -, -⟩
                     have PP := hid (P1.out w4 g1 g2 gp hb hs)
                     have B4 := hid hb
                     clear hb hs S1)
                  | (go_at_call 29
                     refine PP.out.mono ?_
                     rintro e w5 ⟨k2, u2, rfl, hk, hv, -, hb⟩
                     have B5 := hid (below_on B4.out hb)
                     have M1 := hid (same_any T k2 u2 _ _ w5 hk hv (hi.out.hr.kr.below B5.out) (hi.out.hr.vr.below B5.out) (by have := hi.out.ln; omega))
                     obtain ⟨ao5, cap5, e1, -, -⟩ := hk.shape
                     obtain ⟨ap5, caq5, e2, -, -⟩ := hv.shape
                     generalize T.length = tl2 at e1 e2
                     subst e1 e2
                     clear hk hv hb PP B4)
                  | (go_at_call 30
                     refine M1.out.mono ?_
                     rintro e w6 ⟨rfl, hb⟩
                     have B6 := hid (below_on B5.out hb)
                     clear hb M1 B5))
                go_roundw
                case rel => exact ⟨k + 1, _, _, by go_num, by omega, hid ((hi.out.below B6.out).mono (by omega))⟩
                case measure => simp [intOf]; omega
            · as_aux_lemma =>
              have h3k : ¬ (k : Int) ≤ ls.length := by omega
              have DN := hid (hi_done hi.out (by have := HB.out; omega))
              have HB2 := hid (show 200 + 201 * r + k ≤ 200 + 201 * (r + 1) by have := HB.out; omega)
              go_wp2_with (first
                | (go_at_call 27
                   refine DN.out.mono ?_
                   rintro e w7 ⟨rfl, h7, hr7, hn7⟩
                   have H7 := hid h7
                   have R7 := hid (And.intro hr7 hn7)
                   have ID := hid (vidle p _ _ w7 h7.z)
                   have MM := hid (vmarked p _ false _ w7 h7.z)
                   clear h7 hr7 hn7 DN)
                | (go_at_call 27
                   refine ID.out.mono ?_
                   rintro e w8 ⟨rfl, e8⟩
                   rw [e8]
                   clear e8 w8 ID)
                | (go_at_call 25
                   refine MM.out.mono ?_
                   rintro e w8 ⟨rfl, e8⟩
                   rw [e8]
                   clear e8 w8 MM)
                | (go_at_call 20
                   refine (S1.out w7).mono ?_
                   rintro e w9 ⟨g1, g2, gp, rfl, hs, hb, -, -, -⟩
                   have H9 := hid (H7.out.below hb)
                   have R9 := hid (And.intro (hp_below R7.out.1 hb (hp_lt R7.out.1)) R7.out.2)
                   have PP := hid (pairs_snap_no H9.out.z H9.out.fl hs (by decide))
                   clear hb hs S1 H7 R7)
                | (go_at_call 29
                   refine PP.out.mono ?_
                   rintro e w10 ⟨k2, u2, rfl, hk, hv, -, hb⟩
                   have H10 := hid (H9.out.below hb)
                   have R10 := hid (And.intro (hp_below R9.out.1 hb (hp_lt R9.out.1)) R9.out.2)
                   obtain ⟨ao5, cap5, e1, -, -⟩ := hk.shape
                   obtain ⟨ap5, caq5, e2, -, -⟩ := hv.shape
                   simp only [List.length_nil] at e1 e2
                   subst e1 e2
                   clear hk hv hb PP H9 R9))
              go_roundw
              case rel => exact ⟨r + 1, _, _, by go_num, by omega, hid ⟨H10.out.mono HB2.out, R10.out.1, R10.out.2⟩⟩
              case measure => simp [intOf]; omega
        · as_aux_lemma =>
          have h12k : ¬ (r : Int) < 2 := by omega
          go_wp2_with (
            go_at_call 10
            refine (KN.out wr).mono ?_
            rintro e w9 ⟨rfl, hb9⟩
            have B9 := hid (below_on h2.out.1.be hb9)
            clear hb9)
          go_ret
          exact ⟨rfl, B9.out⟩

end Go.Proofs.Ythjggbcppgbdoaa

namespace Go.Proofs.Ythjggbcppgbdoaa
open Go.ChangeShapes Go.WideShapes Go.ChangeAt Go.RowKit

theorem Try.own : ownKnob Try.prog.godebug = none := by kernel_rfl
theorem Try.laidOut : laidOutB Try.prog = true := by kernel_rfl

set_option maxRecDepth 100000 in
theorem zigzagHolds_lifted (os : Os) (started : os.Started) (H : Type) (enc : TypeId × Value → H) :
    ReturnsInHanded {} Try.checked os 6 .any (Rows.zigzagHoldsSpec.pre6 enc Try.prog Try.f6 Rows.zigzagHoldsRow.domain false) (Rows.zigzagHoldsSpec.post enc Try.prog Try.f6 false true false false) := by
  refine returnsInHanded_of_change_sized (C := Try.checked) Try.own started (by kernel_rfl) Try.func6
    (ChangeSpec.witness6 (enc := enc) (C := Try.checked) false ⟨#[], #[.slice none 0 0, .slice none 0 0, .slice none 0 0], []⟩ 8 (by kernel_rfl) (by kernel_rfl) (by kernel_rfl) (by kernel_rfl)) ?_
  intro W base args ds gs before hval0 hW hcnd hsz0 _
  have hval : ∀ (j : Nat) t v, Try.f6.params[j]? = some t → args[j]? = some v → Value.okWide Try.prog W .any base t v := hval0
  have hsz : (DataW.weightsEach Try.prog (Try.f6.params.toList ++ Rows.zigzagHoldsSpec.plain.varTypes Try.prog) (ds ++ gs)).all (· ≤ reachBytes) = true := hsz0
  have hW' := hW
  obtain ⟨p, q, hA0, hV, rfl, hfz, hnd⟩ := hW
  have hA : DataW.TrodAll enc Try.prog W 0 (fun _ => true) true Try.f6.params.toList args.toList ds p := hA0
  rw [Try.params6] at hA hval hsz
  obtain ⟨v0, vs0, d0, ds0, p0, q0, hargs0, rfl, rfl, h0, r0⟩ := trodAll_cons hA
  obtain ⟨v1, vs1, d1, ds1, p1, q1, hargs1, rfl, rfl, h1, r1⟩ := trodAll_cons r0
  obtain ⟨v2, vs2, d2, ds2, p2, q2, hargs2, rfl, rfl, h2, r2⟩ := trodAll_cons r1
  obtain ⟨rfl, rfl, rfl⟩ := trodAll_nil r2
  subst hargs2 hargs1
  obtain rfl : args = #[v0, v1, v2] := by cases args; simp_all
  obtain ⟨rfl, rfl⟩ := trodVars_none hV
  obtain ⟨a0, len0, cap0, rfl⟩ := okWide_slice Try.underlying22 (hval 0 22 v0 rfl rfl)
  obtain ⟨a1, len1, cap1, rfl⟩ := okWide_slice Try.underlying22 (hval 1 22 v1 rfl rfl)
  obtain ⟨a2, len2, cap2, rfl⟩ := okWide_slice Try.underlying22 (hval 2 22 v2 rfl rfl)
  have k0 := h0
  have lt0 : ∀ x ∈ p0, x.block < W.heap.size := by obtain ⟨m, hm⟩ := k0; exact DataW.trod_lt m _ _ _ hm
  have k1 := h1
  have lt1 : ∀ x ∈ p1, x.block < W.heap.size := by obtain ⟨m, hm⟩ := k1; exact DataW.trod_lt m _ _ _ hm
  have k2 := h2
  have lt2 : ∀ x ∈ p2, x.block < W.heap.size := by obtain ⟨m, hm⟩ := k2; exact DataW.trod_lt m _ _ _ hm
  obtain ⟨m0, hm0⟩ := h0
  obtain ⟨u0, ys0, e0, hs0, hy0⟩ := steps_of_trod hm0 (fun n hn => by
    have := List.all_eq_true.1 hsz _ (DataW.weights_mem_each (j := 0) (t := 22) (d := d0) rfl rfl n hn)
    simpa using this)
  have e0' : Value.slice a0 len0 cap0 = u0 := by injection (show [Value.slice a0 len0 cap0] = [u0] from e0)
  subst e0'
  obtain ⟨m1, hm1⟩ := h1
  obtain ⟨u1, ys1, e1, hs1, hy1⟩ := steps_of_trod hm1 (fun n hn => by
    have := List.all_eq_true.1 hsz _ (DataW.weights_mem_each (j := 1) (t := 22) (d := d1) rfl rfl n hn)
    simpa using this)
  have e1' : Value.slice a1 len1 cap1 = u1 := by injection (show [Value.slice a1 len1 cap1] = [u1] from e1)
  subst e1'
  obtain ⟨m2, hm2⟩ := h2
  obtain ⟨u2, ys2, e2, hs2, hy2⟩ := steps_of_trod hm2 (fun n hn => by
    have := List.all_eq_true.1 hsz _ (DataW.weights_mem_each (j := 2) (t := 22) (d := d2) rfl rfl n hn)
    simpa using this)
  have e2' : Value.slice a2 len2 cap2 = u2 := by injection (show [Value.slice a2 len2 cap2] = [u2] from e2)
  subst e2'
  clear hA0 hval0 hsz hsz0
  refine (holds_any _ _ _ ys0 ys1 ys2 W hs0 hy0 hs1 hy1 hs2 hy2).mono fun e W' ⟨he, bel⟩ => ?_
  subst he
  exact ⟨_, rfl, _, _, _, [], _, [], hW', trodAll_mk1 (shut_bool Try.underlying4 _), (trodAll_cons_mk (Below.trod Try.laidOut (by kernel_rfl) (of_decide_eq_true (by kernel_rfl)) k0 bel lt0) (trodAll_cons_mk (Below.trod Try.laidOut (by kernel_rfl) (of_decide_eq_true (by kernel_rfl)) k1 bel lt1) (trodAll_cons_mk (Below.trod Try.laidOut (by kernel_rfl) (of_decide_eq_true (by kernel_rfl)) k2 bel lt2) trodAll_mk0))), rfl, bel.frame _, fun h => by cases h⟩

theorem zigzagHolds_holds : Rows.ZigzagHoldsSaid :=
  OpenClaim.holds_of_wide 6 Try.f6 rfl rfl rfl rfl rfl rfl rfl ⟨rfl, rfl, rfl, rfl, rfl⟩ rfl rfl rfl rfl rfl (by kernel_rfl) Try.func6 (by kernel_rfl)
    (of_decide_eq_true (by kernel_rfl)) (by unfold Func.isWrapper; first | (rw [if_pos (by decide +kernel)]; kernel_rfl) | (rw [if_neg (by decide +kernel)]; exact ⟨rfl, rfl⟩))
    (fun os started H enc _ => zigzagHolds_lifted os started H enc)

#print axioms zigzagHolds_holds
end Go.Proofs.Ythjggbcppgbdoaa
