import Derived.Test.YtlmompdfombgeaaGreatK35
import Derived.ProofKit
import Derived.OpenShut
import Derived.ShutString
import Derived.ChangeOld
namespace Go.Proofs.YtlmompdfombgeaaGreat
open Go.RowKit Go.MapKept

set_option maxRecDepth 100000 in
set_option maxHeartbeats 12800000 in
theorem holds_any (room most : Int) (v : Value) (xs : List Sp) (w : World) (h : Sps w v xs) : Calls Tryz.prog 7 #[.int .i64 room, .int .i64 most, v] w fun x w' => x = .returned (.bool true) ∧ Below w.heap.size w w' := by
  obtain ⟨ao, cap, rfl, hc, hcm⟩ := h.1.shape
  have HS := hid h
  clear h
  by_cases hg : 0 ≤ room ∧ room ≤ 4194304 ∧ 0 ≤ most ∧ most ≤ 512
  · obtain ⟨g0, g1, g2, g3⟩ := hg
    go_enter Tryz.func7, Tryz.ntmps7
    go_wp2_with (first
      | (go_at_call 13
         refine (much_any (.slice ao xs.length cap) xs w HS.out).mono ?_
         rintro e w1 ⟨hb1, rr, rfl, hm⟩
         have H1 := hid (And.intro hb1 hm)
         clear hb1 hm)
      | (go_at_call 12
         refine (known_any w1).mono ?_
         rintro e w2 ⟨rfl, hb2⟩
         have H2 := hid hb2
         clear hb2)
      | (go_at_call 34
         refine (fresh_ok room most w1 g0 g1 g2 g3).mono ?_
         rintro e w2 ⟨rfl, ht, hb2⟩
         have H2 := hid (And.intro ht hb2)
         clear ht hb2))
    · go_ret
      exact ⟨rfl, H1.out.1.trans (H2.out.mono H1.out.1.size)⟩
    rename_i hrr _ _
    obtain ⟨hlen, hsmall⟩ := H1.out.2 hrr
    have HM := hid hsmall
    have HB := hid H1.out.1
    clear hsmall H1
    subst hrr
    go_loopw [8] (fun i wr => ∃ (k : Nat) (t : Wt) (D : Dq), k ≤ xs.length ∧ i = .int .i64 k ∧ Hid (DkT wr w1.heap.size t D ∧ WD (2 * k) D ∧ D.room = room ∧ D.limit = most ∧ (∀ q, Dft w1.heap.size t D q → w1.heap.size ≤ q) ∧ Below w1.heap.size w1 wr)) (fun i _ => xs.length - (intOf i).toNat)
    case atStart =>
      obtain ⟨⟨t, hd, hlo⟩, hb2⟩ := H2.out
      exact ⟨0, t, newD room most, Nat.zero_le _, by go_num, hid ⟨hd, newD_WD room most g0 g1 g2 g3, rfl, rfl, hlo, hb2⟩⟩
    case round =>
      obtain ⟨k, t, D, hk, rfl, HR⟩ := hrel
      obtain ⟨hd, hW, hrm, hlm, hlo, hbr⟩ := HR.out
      by_cases hlt : k < xs.length
      · have i1 : (k : Int) < (xs.length : Int) := by omega
        obtain ⟨b, ofs, cap', e, -, -, hcell⟩ := Rf.elem (f := scs) (fun _ => rfl) (by omega) HS.out.1 k hlt
        injection e with e1 e2 e3
        subst e1 e3
        clear e2
        have hok := HS.out.2 xs[k] (List.getElem_mem hlt)
        have hsm := HM.out xs[k] (List.getElem_mem hlt)
        have hbw : Below w.heap.size w wr := HB.out.trans (hbr.mono HB.out.size)
        obtain ⟨x, hx⟩ : ∃ x, x = xs[k] := ⟨_, rfl⟩
        rw [← hx] at hok hsm hcell
        have hdl := hp_lt hd.disk
        have hn2 : 2 * k ≤ 1000 := by omega
        have hlo' : ∀ q, Dft w1.heap.size t D q → w.heap.size ≤ q := fun q e => Nat.le_trans HB.out.size (hlo q e)
        have hdoes := fun (W : World) (hb : Below wr.heap.size wr W) => does_dk x (⟨hd.below hb, hW, by omega, hok, hbw.trans (hb.mono hbw.size), hlo', hsm⟩ : DoesPre w W w1.heap.size t D (2 * k) x)
        obtain ⟨D', hD'⟩ : ∃ D', D' = (doesP x D).2 := ⟨_, rfl⟩
        obtain ⟨er, her⟩ : ∃ er, er = (doesP x D).1 := ⟨_, rfl⟩
        have hW' : WD (2 * (k + 1)) D' := by rw [hD', Nat.mul_add]; exact hW.doesP x
        have hrm' : D'.room = room ∧ D'.limit = most := by rw [hD', ← hrm, ← hlm]; exact doesP_room x D
        have hcr : x.kind = 10 → Calm D' ∧ heldD D' ≤ heldD D ∧ D'.files.length ≤ D.files.length ∧ D'.off = false ∧ D'.st = 0 ∧ D'.rd = 0 := fun e => by rw [hD']; exact doesP_crash x D hW e
        simp only [← hD', ← her] at hdoes
        obtain ⟨kind, name, to, dv, data, nn, sv, gs, rv, gr, pn, fv, pk⟩ := x
        obtain ⟨-, -, -, -, -, hdt, -, hfs, -, hfr, -, hpk⟩ := hok
        obtain ⟨a1, q1, e1, d1, d2⟩ := hdt.shape
        obtain ⟨a2, q2, e2, d3, d4⟩ := hfs.shape
        obtain ⟨a3, q3, e3, d5, d6⟩ := hfr.shape
        obtain ⟨a4, q4, e4, d7, d8⟩ := hpk.1.shape
        dsimp only at e1 e2 e3 e4 hcr
        subst e1 e2 e3 e4
        have cc : ∀ (W : World), Below wr.heap.size wr W → ∀ c u, (scs ⟨kind, name, to, .slice a1 data.length q1, data, nn, .slice a2 gs.length q2, gs, .slice a3 gr.length q3, gr, pn, .slice a4 pk.length q4, pk⟩)[c]? = some u → W.cell? ⟨b, ofs + k * 9 + c, none⟩ = some u := fun W hb c u hu => ((hbw.trans (hb.mono hbw.size)).cell (World.block_lt_of_cell? _ _ (hcell c u hu))).trans (hcell c u hu)
        have hbl : b < w.heap.size := World.block_lt_of_cell? _ _ (hcell 0 _ rfl)
        dsimp only at hdoes
        have HST := hid (And.intro hdoes cc)
        have HD := hid (And.intro hd (And.intro hW (And.intro hlo (And.intro hbr hbw))))
        have HE := hid (And.intro hW' (And.intro hrm' hcr))
        have hwz := hbw.size
        have hw1z := HB.out.size
        clear hcell cc hdt hfs hfr hpk hdoes hx hsm hd hW hrm hlm hlo hlo' hbr hbw hW' hrm' hcr hD' her HR d1 d2 d3 d4 d5 d6 d7 d8
        go_wp2_with (first
          | (go_at_call 35
             (with_reducible show Calls _ _ _ wr _)
             refine (tell_dk HD.out.1 HD.out.2.1 (by omega)).mono ?_
             rintro e w2 ⟨v2, rfl, ht2, hb2⟩
             obtain ⟨b1, k1, b2, k2, b3, k3, rfl, f1, f2, f3⟩ := ht2.ex
             have c0 := (show w2.cell? ⟨b, ofs + k * 9, none⟩ = some (.int .i64 kind) from HST.out.2 w2 hb2 0 _ rfl)
             have c1 := HST.out.2 w2 hb2 1 _ rfl
             have c2 := HST.out.2 w2 hb2 2 _ rfl
             have c3 := HST.out.2 w2 hb2 3 _ rfl
             have c4 := HST.out.2 w2 hb2 4 _ rfl
             have c5 := HST.out.2 w2 hb2 5 _ rfl
             have c6 := HST.out.2 w2 hb2 6 _ rfl
             have c7 := HST.out.2 w2 hb2 7 _ rfl
             have c8 := HST.out.2 w2 hb2 8 _ rfl
             have r5 := (show b < w2.heap.size from World.block_lt_of_cell? _ _ c0)
             have r6 := hb2.size
             have HT2 := hid hb2
             clear ht2 hb2 f1 f2 f3)
          | (go_at_call 36
             refine (HST.out.1 _ (HT2.out.alloc (by omega) _)).mono ?_
             rintro e w3 ⟨rfl, t', hg⟩
             have hnd := (show ¬ Dft w1.heap.size t D w2.heap.size from fun e => by have := HD.out.1.lt _ e; omega)
             have hw3 := hp_kept (hp_new w2 _) hg.kp hnd
             obtain ⟨v0, v1, v2, v3, v4, v5, v6⟩ := cells7 hw3
             have s0 := (show w3.cell? ⟨b, ofs + k * 9, none⟩ = some (.int .i64 kind) from hg.kp.cell ((((Below.refl w2.heap.size w2).alloc (Nat.le_refl _) _).cell r5).trans c0) (fun e => by have := HD.out.2.2.1 _ e; dsimp only at this; omega))
             have HG := hid (And.intro hg hw3)
             clear hg hnd hw3 v0 v1 v2 v3 v6 c0 c1 c2 c3 c4 c5 c6 c7 c8)
          | (go_at_call 35
             (with_reducible show Calls _ _ _ w3 _)
             refine (tell_dk HG.out.1.dk HE.out.1 (by omega)).mono ?_
             rintro e w4 ⟨v4', rfl, ht4, hb4⟩
             obtain ⟨g1', l1, g2', l2, g3', l3, rfl, f1, f2, f3⟩ := ht4.ex
             have u4 := (hb4.cell (World.block_lt_of_cell? _ _ v4)).trans v4
             have u5 := (hb4.cell (World.block_lt_of_cell? _ _ v5)).trans v5
             have s1 := (hb4.cell (World.block_lt_of_cell? _ _ s0)).trans s0
             clear s0
             have HT4 := hid (And.intro hb4 (And.intro f1 (And.intro f2 f3)))
             clear ht4 hb4 f1 f2 f3 v4 v5))
        obtain ⟨hbn, hbe⟩ : ∃ hbn, hbn = heldD D' := ⟨_, rfl⟩
        obtain ⟨fl, hfl⟩ : ∃ fl, fl = (filesD D').length := ⟨_, rfl⟩
        obtain ⟨sl, hsl⟩ : ∃ sl, sl = (safeD D').length := ⟨_, rfl⟩
        obtain ⟨hcn, hce⟩ : ∃ hcn, hcn = D'.files.length := ⟨_, rfl⟩
        obtain ⟨hbo, hboe⟩ : ∃ hbo, hbo = heldD D := ⟨_, rfl⟩
        obtain ⟨hco, hcoe⟩ : ∃ hco, hco = D.files.length := ⟨_, rfl⟩
        obtain ⟨tn, hte⟩ : ∃ tn, tn = D'.turns.length := ⟨_, rfl⟩
        obtain ⟨of, hoe⟩ : ∃ of, of = D'.off := ⟨_, rfl⟩
        obtain ⟨fz, hfz⟩ : ∃ fz, fz = szF (filesD D') := ⟨_, rfl⟩
        obtain ⟨sz, hsz⟩ : ∃ sz, sz = szF (safeD D') := ⟨_, rfl⟩
        have hF : (hbn : Int) ≤ room ∧ (hcn : Int) ≤ most ∧ fz ≤ hbn ∧ sz ≤ hbn ∧ fl ≤ hcn ∧ sl ≤ hcn := by
          obtain ⟨hW', ⟨hr1, hr2⟩, hcr⟩ := HE.out
          rw [hbe, hce, hfz, hsz, hfl, hsl, ← hr1, ← hr2]
          exact ⟨hW'.hld, hW'.cnt, files_sz hW', safe_sz hW', files_len hW', safe_len hW'⟩
        obtain ⟨n1, n2, n3, n4, n5, n6⟩ := hF
        rw [← hfl, ← hsl, ← hte, ← hce, ← hbe, ← hoe]
        have hb5 : Below w4.heap.size w4 (w4.alloc (.cells #[.slice g1' fl l1, .slice g2' sl l2, .int .i64 tn, .slice g3' hcn l3, .int .i64 hbn, .int .i64 hcn, .bool of] 81)) := (Below.refl _ _).alloc (Nat.le_refl _) _
        have hw5 : (w4.alloc (.cells #[.slice g1' fl l1, .slice g2' sl l2, .int .i64 tn, .slice g3' hcn l3, .int .i64 hbn, .int .i64 hcn, .bool of] 81)).heap[w4.heap.size]? = some (.cells #[.slice g1' fl l1, .slice g2' sl l2, .int .i64 tn, .slice g3' hcn l3, .int .i64 hbn, .int .i64 hcn, .bool of] 81 (0, 0)) := hp_new _ _
        rw [← hboe] at u4
        rw [← hcoe] at u5
        have p4 := (hb5.cell (World.block_lt_of_cell? _ _ u4)).trans u4
        have p5 := (hb5.cell (World.block_lt_of_cell? _ _ u5)).trans u5
        have s2 := (hb5.cell (World.block_lt_of_cell? _ _ s1)).trans s1
        clear s1
        obtain ⟨W5, hW5⟩ : ∃ W5, W5 = w4.alloc (.cells #[.slice g1' fl l1, .slice g2' sl l2, .int .i64 tn, .slice g3' hcn l3, .int .i64 hbn, .int .i64 hcn, .bool of] 81) := ⟨_, rfl⟩
        rw [← hW5] at hb5 hw5 p4 p5 s2 ⊢
        obtain ⟨z0, z1, z2, z3, z4, z5, z6⟩ := cells7 hw5
        clear hW5 u4 u5
        have hf5 : FbAt W5 w3.heap.size (.slice g1' fl l1) (filesD D') := by rw [hfl]; exact HT4.out.2.1.below hb5
        have hs5 : FbAt W5 w3.heap.size (.slice g2' sl l2) (safeD D') := by rw [hsl]; exact HT4.out.2.2.1.below hb5
        have q1 : ∀ m, Calls Tryz.prog 37 #[.slice g1' fl l1] (W5.drewN m) fun x w' => x = .returned (.int .i64 (fz : Nat)) ∧ w' = W5.drewN m := fun m => by
          rw [hfz]
          exact size_any (hf5.below (below_drewN (Below.refl _ _) m)) (by omega) (by omega)
        have q2 : ∀ m, Calls Tryz.prog 37 #[.slice g2' sl l2] (W5.drewN m) fun x w' => x = .returned (.int .i64 (sz : Nat)) ∧ w' = W5.drewN m := fun m => by
          rw [hsz]
          exact size_any (hs5.below (below_drewN (Below.refl _ _) m)) (by omega) (by omega)
        have q3 : ∀ m, Calls Tryz.prog 38 #[.slice g1' fl l1] (W5.drewN m) fun x w' => x = .returned (.bool true) ∧ ∃ j, w' = (W5.drewN m).drewN j := fun m => sorted_yes (hf5.below (below_drewN (Below.refl _ _) m)) (toldN_sorted _ _ HE.out.1.nam.k) (by omega)
        have q4 : ∀ m, Calls Tryz.prog 38 #[.slice g2' sl l2] (W5.drewN m) fun x w' => x = .returned (.bool true) ∧ ∃ j, w' = (W5.drewN m).drewN j := fun m => sorted_yes (hs5.below (below_drewN (Below.refl _ _) m)) (toldN_sorted _ _ HE.out.1.safe0.k) (by omega)
        have HQ := hid (And.intro q1 (And.intro q2 (And.intro q3 q4)))
        have HF5 := hid (And.intro hf5 hs5)
        have HN := hid (And.intro hbe (And.intro hfl (And.intro hsl (And.intro hce (And.intro hboe (And.intro hcoe (And.intro hte (And.intro hoe (And.intro hfz hsz)))))))))
        have HB5 := hid (And.intro hb5 hw5)
        clear q1 q2 q3 q4 hf5 hs5 hbe hfl hsl hce hboe hcoe hte hoe hfz hsz hb5 hw5
        have hround : DkT W5 w1.heap.size t' D' ∧ WD (2 * (k + 1)) D' ∧ D'.room = room ∧ D'.limit = most ∧ (∀ q, Dft w1.heap.size t' D' q → w1.heap.size ≤ q) ∧ Below w1.heap.size w1 W5 := by
          obtain ⟨hg, -⟩ := HG.out
          obtain ⟨hW', ⟨hr1, hr2⟩, -⟩ := HE.out
          obtain ⟨hd, hW, hlo, hbr, hbw⟩ := HD.out
          have b2 : Below wr.heap.size wr (w2.alloc (.cells #[.slice b1 (filesD D).length k1, .slice b2 (safeD D).length k2, .int .i64 D.turns.length, .slice b3 D.files.length k3, .int .i64 (heldD D : Nat), .int .i64 D.files.length, .bool D.off] 81)) := HT2.out.alloc HT2.out.size _
          have b12 : Below w1.heap.size w1 w3 := (hbr.trans (b2.mono hbr.size)).trans (hg.kp.below (Nat.le_trans hbr.size b2.size) (fun q hq e => by have := hlo q e; omega))
          have b35 : Below w3.heap.size w3 W5 := HT4.out.1.trans (HB5.out.1.mono HT4.out.1.size)
          refine ⟨hg.dk.below b35, hW', hr1, hr2, fun q e => ?_, b12.trans (b35.mono b12.size)⟩
          rcases hg.ft q e with e | e
          · exact hlo q e
          · exact Nat.le_trans (Nat.le_trans hbr.size b2.size) e
        have ROUND := hid hround
        clear hround
        as_aux_lemma =>
          have t1 : decide ((hbn : Int) < 0) = false := by simp
          have t2 : decide (room < (hbn : Int)) = false := by simp; omega
          have t3 : decide ((hcn : Int) < 0) = false := by simp
          have t4 : decide (most < (hcn : Int)) = false := by simp; omega
          have t5 : decide ((hbn : Int) < (fz : Int)) = false := by simp; omega
          have t6 : decide ((hbn : Int) < (sz : Int)) = false := by simp; omega
          have t7 : decide ((hcn : Int) < (fl : Int)) = false := by simp; omega
          have t8 : decide ((hcn : Int) < (sl : Int)) = false := by simp; omega
          go_quiet ((first
            | (go_at_call 37; (with_reducible show Calls _ _ #[.slice g1' fl l1] _ _); exact Calls.quiet_of_same (HQ.out.1 _))
            | (go_at_call 37; exact Calls.quiet_of_same (HQ.out.2.1 _))
            | (go_at_call 38; (with_reducible show Calls _ _ #[.slice g1' fl l1] _ _); exact Calls.quiet_of (HQ.out.2.2.1 _))
            | (go_at_call 38; exact Calls.quiet_of (HQ.out.2.2.2 _))))
          obtain ⟨W6, hW6⟩ : ∃ W6, W6 = W5.drewN nq := ⟨_, rfl⟩
          have hb56 : Below W5.heap.size W5 W6 := by rw [hW6]; exact below_drewN (Below.refl _ _) nq
          rw [← hW6]
          replace p4 := (hb56.cell (World.block_lt_of_cell? _ _ p4)).trans p4
          replace p5 := (hb56.cell (World.block_lt_of_cell? _ _ p5)).trans p5
          replace s2 := (hb56.cell (World.block_lt_of_cell? _ _ s2)).trans s2
          replace z0 := (hb56.cell (World.block_lt_of_cell? _ _ z0)).trans z0
          replace z1 := (hb56.cell (World.block_lt_of_cell? _ _ z1)).trans z1
          replace z2 := (hb56.cell (World.block_lt_of_cell? _ _ z2)).trans z2
          replace z3 := (hb56.cell (World.block_lt_of_cell? _ _ z3)).trans z3
          replace z4 := (hb56.cell (World.block_lt_of_cell? _ _ z4)).trans z4
          replace z5 := (hb56.cell (World.block_lt_of_cell? _ _ z5)).trans z5
          replace z6 := (hb56.cell (World.block_lt_of_cell? _ _ z6)).trans z6
          have HB6 := hid hb56
          clear hb56 hW6 HQ t1 t2 t3 t4 t5 t6 t7 t8
          go_wp2
          by_cases hk10 : kind = 10
          · as_aux_lemma =>
            obtain ⟨hbe, hfl, hsl, hce, hboe, hcoe, hte, hoe, hfz, hsz⟩ := HN.out
            obtain ⟨hcalm, x1, x2, x3, x4, x5⟩ := HE.out.2.2 hk10
            have hW' := HE.out.1
            have y1 : hbn ≤ hbo := by rw [hbe, hboe]; exact x1
            have y2 : hcn ≤ hco := by rw [hce, hcoe]; exact x2
            have y3 : hbn = fz := by rw [hbe, hfz, hcalm.held hW']
            have y4 : hcn = fl := by rw [hce, hfl, hcalm.cnt hW']
            have y5 : tn = 0 := by rw [hte, hcalm.t]; rfl
            have y6 : of = false := by rw [hoe, x3]
            have hf6 := HF5.out.1.below HB6.out
            have hs6 := HF5.out.2.below HB6.out
            have q1 : ∀ m, Calls Tryz.prog 37 #[.slice g1' fl l1] (W6.drewN m) fun x w' => x = .returned (.int .i64 (fz : Nat)) ∧ w' = W6.drewN m := fun m => by
              rw [hfz]
              exact size_any (hf6.below (below_drewN (Below.refl _ _) m)) (by omega) (by omega)
            have hsame := hcalm.same
            have q5 : ∀ m, Calls Tryz.prog 39 #[.slice g1' fl l1, .slice g2' sl l2] (W6.drewN m) fun x w' => x = .returned (.bool true) ∧ ∃ j, w' = (W6.drewN m).drewN j := fun m => by
              have h1 := hf6.below (below_drewN (Below.refl _ _) m)
              have h2 := hs6.below (below_drewN (Below.refl _ _) m)
              rw [hsame] at h1
              exact files_same h1 h2 (by omega) (by omega)
            obtain ⟨-, -, -, -, -, -, -, -, d8, -, d10, -⟩ := (ROUND.out.1.below HB6.out).disk.cells
            rw [x4] at d8
            rw [x5] at d10
            have q6 : ∀ m, Calls Tryz.prog 32 #[.pointer (some ⟨w1.heap.size, 0, none⟩)] (W6.drewN m) fun x w' => x = .returned (.int .i64 0) ∧ w' = W6.drewN m := fun m => strokes_any _ 0 _ d8
            have q7 : ∀ m, Calls Tryz.prog 33 #[.pointer (some ⟨w1.heap.size, 0, none⟩)] (W6.drewN m) fun x w' => x = .returned (.int .i64 0) ∧ w' = W6.drewN m := fun m => reads_any _ 0 _ d10
            have HQ5 := hid (And.intro q1 (And.intro q5 (And.intro q6 q7)))
            clear q1 q5 q6 q7 hbe hfl hsl hce hboe hcoe hte hoe hfz hsz hcalm x1 x2 x3 x4 x5 hW' hsame hf6 hs6
            subst hk10 y3 y4 y5 y6
            go_quiet ((first
              | (go_at_call 37; exact Calls.quiet_of_same (HQ5.out.1 _))
              | (go_at_call 39; exact Calls.quiet_of (HQ5.out.2.1 _))
              | (go_at_call 32; exact Calls.quiet_of_same (HQ5.out.2.2.1 _))
              | (go_at_call 33; exact Calls.quiet_of_same (HQ5.out.2.2.2 _))))
            go_wp2
            go_roundw
            case rel =>
              have r9 := ROUND.out
              have b9 := HB6.out
              exact ⟨k + 1, t', D', by omega, by go_num, hid ⟨(r9.1.below b9).below (below_drewN (Below.refl _ _) _), r9.2.1, r9.2.2.1, r9.2.2.2.1, r9.2.2.2.2.1, (r9.2.2.2.2.2.trans (b9.mono r9.2.2.2.2.2.size)).trans ((below_drewN (Below.refl _ _) _).mono (Nat.le_trans r9.2.2.2.2.2.size b9.size))⟩⟩
            case measure => simp [intOf]; omega
          · as_aux_lemma =>
            have hd10 : (kind == 10) = false := by simpa using hk10
            go_quiet (fail)
            go_wp2
            go_roundw
            case rel =>
              have r9 := ROUND.out
              have b9 := HB6.out
              exact ⟨k + 1, t', D', by omega, by go_num, hid ⟨(r9.1.below b9).below (below_drewN (Below.refl _ _) _), r9.2.1, r9.2.2.1, r9.2.2.2.1, r9.2.2.2.2.1, (r9.2.2.2.2.2.trans (b9.mono r9.2.2.2.2.2.size)).trans ((below_drewN (Below.refl _ _) _).mono (Nat.le_trans r9.2.2.2.2.2.size b9.size))⟩⟩
            case measure => simp [intOf]; omega
      · have i3 : ¬ (k : Int) < (xs.length : Int) := by omega
        have HL := hid (HB.out.trans (hbr.mono HB.out.size))
        clear hd hW hrm hlm hlo hbr HR
        go_wp2_with (
          go_at_call 12
          refine (known_any wr).mono ?_
          rintro e w9 ⟨rfl, hb9⟩
          have H9 := hid hb9
          clear hb9)
        go_ret
        exact ⟨rfl, HL.out.trans (H9.out.mono HL.out.size)⟩
  · exact holds_no room most _ xs w HS.out hg

end Go.Proofs.YtlmompdfombgeaaGreat

namespace Go.Proofs.YtlmompdfombgeaaGreat
open Go.ChangeShapes Go.WideShapes Go.ChangeAt Go.RowKit

theorem Tryz.own : ownKnob Tryz.prog.godebug = none := by kernel_rfl
theorem Tryz.laidOut : laidOutB Tryz.prog = true := by kernel_rfl

set_option maxRecDepth 100000 in
theorem holds_lifted (os : Os) (started : os.Started) (H : Type) (enc : TypeId × Value → H) :
    ReturnsInHanded {} Tryz.checked os 7 .any (Rows.diskHoldsSpec.pre6 enc Tryz.prog Tryz.f7 Rows.diskHoldsRow.domain false) (Rows.diskHoldsSpec.post enc Tryz.prog Tryz.f7 false true false false) := by
  refine returnsInHanded_of_change (C := Tryz.checked) Tryz.own started (by kernel_rfl) Tryz.func7
    (ChangeSpec.witness6 (enc := enc) (C := Tryz.checked) false ⟨#[], #[.int .i64 0, .int .i64 0, .slice none 0 0], []⟩ 8 (by kernel_rfl) (by kernel_rfl) (by kernel_rfl) (by kernel_rfl)) ?_
  intro W base args ds gs before hval0 hW hcnd _
  have hval : ∀ (j : Nat) t v, Tryz.f7.params[j]? = some t → args[j]? = some v → Value.okWide Tryz.prog W .any base t v := hval0
  have hW' := hW
  obtain ⟨p, q, hA0, hV, rfl, hfz, hnd⟩ := hW
  have hA : DataW.TrodAll enc Tryz.prog W 0 (fun _ => true) true Tryz.f7.params.toList args.toList ds p := hA0
  rw [Tryz.params7] at hA hval
  obtain ⟨v0, vs0, d0, ds0, p0, q0, hargs, rfl, rfl, h0, r0⟩ := trodAll_cons hA
  obtain ⟨v1, vs1, d1, ds1, p1, q1, rfl, rfl, rfl, h1, r1⟩ := trodAll_cons r0
  obtain ⟨v2, vs2, d2, ds2, p2, q2, rfl, rfl, rfl, h2, r2⟩ := trodAll_cons r1
  obtain ⟨rfl, rfl, rfl⟩ := trodAll_nil r2
  obtain rfl : args = #[v0, v1, v2] := by cases args; simp_all
  obtain ⟨rfl, rfl⟩ := trodVars_none hV
  obtain ⟨x0, rfl, rfl, rfl, w0⟩ := open_int Tryz.underlying3 (hval 0 3 v0 rfl rfl) h0
  obtain ⟨x1, rfl, rfl, rfl, w1⟩ := open_int Tryz.underlying3 (hval 1 3 v1 rfl rfl) h1
  obtain ⟨a0, len0, cap0, rfl⟩ := okWide_slice Tryz.underlying32 (hval 2 32 v2 rfl rfl)
  have k2 := h2
  have lt2 : ∀ x ∈ p2, x.block < W.heap.size := by obtain ⟨m, hm⟩ := k2; exact DataW.trod_lt m _ _ _ hm
  obtain ⟨m, hm⟩ := h2
  obtain ⟨v, ys, e, hs⟩ := steps_of_trod hm
  have e' : Value.slice a0 len0 cap0 = v := by injection (show [Value.slice a0 len0 cap0] = [v] from e)
  subst e'
  clear hA0 hval0
  refine (holds_any x0 x1 _ ys W hs).mono fun e W' ⟨he, bel⟩ => ?_
  subst he
  exact ⟨_, rfl, _, _, _, [], _, [], hW', trodAll_mk1 (shut_bool Tryz.underlying4 _), (trodAll_cons_mk (shut_int Tryz.underlying3 w0) (trodAll_cons_mk (shut_int Tryz.underlying3 w1) (trodAll_cons_mk (Below.trod Tryz.laidOut (by kernel_rfl) (of_decide_eq_true (by kernel_rfl)) k2 bel lt2) trodAll_mk0))), rfl, bel.frame _, fun h => by cases h⟩

theorem diskHolds_holds : Rows.DiskHoldsSaid :=
  OpenClaim.holds_of_wide 7 Tryz.f7 rfl rfl rfl rfl rfl rfl rfl ⟨rfl, rfl, rfl, rfl, rfl⟩ rfl rfl rfl rfl rfl (by kernel_rfl) Tryz.func7 (by kernel_rfl)
    (of_decide_eq_true (by kernel_rfl)) (by unfold Func.isWrapper; first | (rw [if_pos (by decide +kernel)]; kernel_rfl) | (rw [if_neg (by decide +kernel)]; exact ⟨rfl, rfl⟩))
    (fun os started H enc _ => holds_lifted os started H enc)

#print axioms diskHolds_holds
end Go.Proofs.YtlmompdfombgeaaGreat
