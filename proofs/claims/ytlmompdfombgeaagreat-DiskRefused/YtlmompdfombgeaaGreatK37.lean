import Derived.Test.YtlmompdfombgeaaGreatK36
import Derived.Deep.Cut
namespace Go.Proofs.YtlmompdfombgeaaGreat
open Go.RowKit Go.MapKept

theorem cells9 {w : World} {p : Nat} {a b c d e f g h i : Value} {t : TypeId} (hh : w.heap[p]? = some (.cells #[a, b, c, d, e, f, g, h, i] t (0, 0))) : w.cell? ⟨p, 0, none⟩ = some a ∧ w.cell? ⟨p, 1, none⟩ = some b ∧ w.cell? ⟨p, 2, none⟩ = some c ∧ w.cell? ⟨p, 3, none⟩ = some d ∧ w.cell? ⟨p, 4, none⟩ = some e ∧ w.cell? ⟨p, 5, none⟩ = some f ∧ w.cell? ⟨p, 6, none⟩ = some g ∧ w.cell? ⟨p, 7, none⟩ = some h ∧ w.cell? ⟨p, 8, none⟩ = some i := by
  refine ⟨?_, ?_, ?_, ?_, ?_, ?_, ?_, ?_, ?_⟩ <;> (rw [cell_of_row w p _ _ _ _ hh]; rfl)

set_option maxRecDepth 100000 in
set_option maxHeartbeats 3200000 in
theorem refused_no (room most : Int) (v : Value) (xs : List Sp) (w : World) (h : Sps w v xs) (hg : ¬ (0 ≤ room ∧ room ≤ 4194304 ∧ 0 ≤ most ∧ most ≤ 512)) : Calls Tryz.prog 8 #[.int .i64 room, .int .i64 most, v] w fun x w' => x = .returned (.bool true) ∧ Below w.heap.size w w' := by
  obtain ⟨ao, cap, rfl, hc, hcm⟩ := h.1.shape
  have HS := hid h
  clear h
  · skip
    go_enter Tryz.func8, Tryz.ntmps8
    go_wp2_with (first
      | (go_at_call 13
         refine (much_any (.slice ao xs.length cap) xs w HS.out).mono ?_
         rintro e w1 ⟨hb1, rr, rfl, hm⟩
         have H1 := hid (And.intro hb1 hm)
         clear hb1 hm)
      | (go_at_call 12
         refine (known_any w1).mono ?_
         rintro e w2 ⟨rfl, hb2⟩
         have H2 := hid hb2
         clear hb2)
      | (go_at_call 34
         refine (fresh_no room most w1 hg).mono ?_
         rintro e w2 ⟨rfl, e1⟩
         rw [e1]
         clear e1 w2))
    all_goals
      go_ret
      exact ⟨rfl, H1.out.1.trans (H2.out.mono H1.out.1.size)⟩

set_option maxRecDepth 100000 in
set_option maxHeartbeats 12800000 in
theorem refused_any (room most : Int) (v : Value) (xs : List Sp) (w : World) (h : Sps w v xs) : Calls Tryz.prog 8 #[.int .i64 room, .int .i64 most, v] w fun x w' => x = .returned (.bool true) ∧ Below w.heap.size w w' := by
  by_cases hg : 0 ≤ room ∧ room ≤ 4194304 ∧ 0 ≤ most ∧ most ≤ 512
  · obtain ⟨ao, cap, rfl, hc, hcm⟩ := h.1.shape
    have HS := hid h
    clear h
    obtain ⟨g0, g1, g2, g3⟩ := hg
    go_enter Tryz.func8, Tryz.ntmps8
    go_wp2_with (first
      | (go_at_call 13
         refine (much_any (.slice ao xs.length cap) xs w HS.out).mono ?_
         rintro e w1 ⟨hb1, rr, rfl, hm⟩
         have H1 := hid (And.intro hb1 hm)
         clear hb1 hm)
      | (go_at_call 12
         refine (known_any w1).mono ?_
         rintro e w2 ⟨rfl, hb2⟩
         have H2 := hid hb2
         clear hb2)
      | (go_at_call 34
         refine (fresh_ok room most w1 g0 g1 g2 g3).mono ?_
         rintro e w2 ⟨rfl, ht, hb2⟩
         have H2 := hid (And.intro ht hb2)
         clear ht hb2))
    · go_ret
      exact ⟨rfl, H1.out.1.trans (H2.out.mono H1.out.1.size)⟩
    rename_i hrr _ _
    obtain ⟨hlen, hsmall⟩ := H1.out.2 hrr
    have HM := hid hsmall
    have HB := hid H1.out.1
    clear hsmall H1
    subst hrr
    go_loopw [8] (fun i wr => ∃ (k : Nat) (t : Wt) (D : Dq), k ≤ xs.length ∧ i = .int .i64 k ∧ Hid (DkT wr w1.heap.size t D ∧ WD (2 * k) D ∧ (∀ q, Dft w1.heap.size t D q → w1.heap.size ≤ q) ∧ Below w1.heap.size w1 wr)) (fun i _ => xs.length - (intOf i).toNat)
    case atStart =>
      obtain ⟨⟨t, hd, hlo⟩, hb2⟩ := H2.out
      exact ⟨0, t, newD room most, Nat.zero_le _, by go_num, hid ⟨hd, newD_WD room most g0 g1 g2 g3, hlo, hb2⟩⟩
    case round =>
      obtain ⟨k, t, D, hk, rfl, HR⟩ := hrel
      obtain ⟨hd, hW, hlo, hbr⟩ := HR.out
      by_cases hlt : k < xs.length
      · have i1 : (k : Int) < (xs.length : Int) := by omega
        obtain ⟨b, ofs, cap', e, -, -, hcell⟩ := Rf.elem (f := scs) (fun _ => rfl) (by omega) HS.out.1 k hlt
        injection e with e1 e2 e3
        subst e1 e3
        clear e2
        have hok := HS.out.2 xs[k] (List.getElem_mem hlt)
        have hsm := HM.out xs[k] (List.getElem_mem hlt)
        have hbw : Below w.heap.size w wr := HB.out.trans (hbr.mono HB.out.size)
        obtain ⟨x, hx⟩ : ∃ x, x = xs[k] := ⟨_, rfl⟩
        rw [← hx] at hok hsm hcell
        have hdl := hp_lt hd.disk
        have hn2 : 2 * k ≤ 1000 := by omega
        have hlo' : ∀ q, Dft w1.heap.size t D q → w.heap.size ≤ q := fun q e => Nat.le_trans HB.out.size (hlo q e)
        have hdoes := fun (W : World) (hb : Below wr.heap.size wr W) => does_dk x (⟨hd.below hb, hW, by omega, hok, hbw.trans (hb.mono hbw.size), hlo', hsm⟩ : DoesPre w W w1.heap.size t D (2 * k) x)
        obtain ⟨D', hD'⟩ : ∃ D', D' = (doesP x D).2 := ⟨_, rfl⟩
        obtain ⟨er, her⟩ : ∃ er, er = (doesP x D).1 := ⟨_, rfl⟩
        have hW' : WD (2 * (k + 1)) D' := by rw [hD', Nat.mul_add]; exact hW.doesP x
        have href : x.kind ≠ 9 → x.kind ≠ 10 → Ref x.kind er D D' := fun a b => by rw [hD', her]; exact does_ref x D a b
        simp only [← hD', ← her] at hdoes
        obtain ⟨kind, name, to, dv, data, nn, sv, gs, rv, gr, pn, fv, pk⟩ := x
        obtain ⟨-, -, -, -, -, hdt, -, hfs, -, hfr, -, hpk⟩ := hok
        obtain ⟨a1, q1, e1, d1, d2⟩ := hdt.shape
        obtain ⟨a2, q2, e2, d3, d4⟩ := hfs.shape
        obtain ⟨a3, q3, e3, d5, d6⟩ := hfr.shape
        obtain ⟨a4, q4, e4, d7, d8⟩ := hpk.1.shape
        dsimp only at e1 e2 e3 e4 href
        subst e1 e2 e3 e4
        have cc : ∀ c u, (scs ⟨kind, name, to, .slice a1 data.length q1, data, nn, .slice a2 gs.length q2, gs, .slice a3 gr.length q3, gr, pn, .slice a4 pk.length q4, pk⟩)[c]? = some u → wr.cell? ⟨b, ofs + k * 9 + c, none⟩ = some u := fun c u hu => (hbw.cell (World.block_lt_of_cell? _ _ (hcell c u hu))).trans (hcell c u hu)
        have c0 : wr.cell? ⟨b, ofs + k * 9, none⟩ = _ := cc 0 _ rfl
        have c1 := cc 1 _ rfl
        have c2 := cc 2 _ rfl
        have c3 := cc 3 _ rfl
        have c4 := cc 4 _ rfl
        have c5 := cc 5 _ rfl
        have c6 := cc 6 _ rfl
        have c7 := cc 7 _ rfl
        have c8 := cc 8 _ rfl
        dsimp only at hdoes
        have HST := hid hdoes
        have HD := hid (And.intro hd (And.intro hW (And.intro hlo (And.intro hbr hbw))))
        have HE := hid (And.intro hW' href)
        have hwz := hbw.size
        have hw1z := HB.out.size
        have hb0 : Below wr.heap.size wr (wr.alloc (.cells #[.int .i64 kind, .string name, .string to, .slice a1 data.length q1, .int .i64 nn, .slice a2 gs.length q2, .slice a3 gr.length q3, .int .i64 pn, .slice a4 pk.length q4] 43)) := (Below.refl _ _).alloc (Nat.le_refl _) _
        have hx0 : (wr.alloc (.cells #[.int .i64 kind, .string name, .string to, .slice a1 data.length q1, .int .i64 nn, .slice a2 gs.length q2, .slice a3 gr.length q3, .int .i64 pn, .slice a4 pk.length q4] 43)).heap[wr.heap.size]? = some (.cells #[.int .i64 kind, .string name, .string to, .slice a1 data.length q1, .int .i64 nn, .slice a2 gs.length q2, .slice a3 gr.length q3, .int .i64 pn, .slice a4 pk.length q4] 43 (0, 0)) := hp_new _ _
        have HB0 := hid (And.intro hb0 hx0)
        clear hcell cc hdt hfs hfr hpk hdoes hx hsm hd hW hlo hlo' hbr hbw hW' href hD' her HR d1 d2 d3 d4 d5 d6 d7 d8 hb0 hx0
        go_upto_region 15 with (first
          | (go_at_call 35
             (with_reducible show Calls _ _ _ (World.alloc wr _) _)
             refine (tell_dk (HD.out.1.below HB0.out.1) HD.out.2.1 (by omega)).mono ?_
             rintro e w2 ⟨v2, rfl, ht2, hb2⟩
             obtain ⟨b1, k1, b2, k2, b3, k3, rfl, f1, f2, f3⟩ := ht2.ex
             have hbw2 := HB0.out.1.trans (hb2.mono HB0.out.1.size)
             have hx2 := hp_below HB0.out.2 hb2 (by simp)
             have r6 := hbw2.size
             have r7 := (show wr.heap.size < w2.heap.size from hp_lt hx2)
             have hda := HD.out.1.below (hbw2.alloc r6 (.cells #[.slice b1 (filesD D).length k1, .slice b2 (safeD D).length k2, .int .i64 D.turns.length, .slice b3 D.files.length k3, .int .i64 (heldD D : Nat), .int .i64 D.files.length, .bool D.off] 81))
             obtain ⟨-, -, -, -, -, -, -, -, y8, -, y10, -⟩ := hda.disk.cells
             obtain ⟨x0, x1, x2, x3, x4, x5, x6, x7, x8⟩ := cells9 (hp_alloc hx2 (.cells #[.slice b1 (filesD D).length k1, .slice b2 (safeD D).length k2, .int .i64 D.turns.length, .slice b3 D.files.length k3, .int .i64 (heldD D : Nat), .int .i64 D.files.length, .bool D.off] 81))
             have HT2 := hid (And.intro hbw2 (And.intro hx2 (And.intro f1 (And.intro f2 f3))))
             clear ht2 hb2 f1 f2 f3 hbw2 hx2 hda c0 c1 c2 c3 c4 c5 c6 c7 c8)
          | (go_at_call 32
             refine (strokes_any _ _ _ y8).mono ?_
             rintro e w9 ⟨rfl, e1⟩
             rw [e1]
             clear e1 w9)
          | (go_at_call 33
             refine (reads_any _ _ _ y10).mono ?_
             rintro e w9 ⟨rfl, e1⟩
             rw [e1]
             clear e1 w9)
          | (go_at_call 36
             refine (HST.out _ (HT2.out.1.alloc (by omega) _)).mono ?_
             rintro e w3 ⟨rfl, t', hg⟩
             have hnd := (show ¬ Dft w1.heap.size t D w2.heap.size from fun e => by have := HD.out.1.lt _ e; omega)
             have hnd2 := (show ¬ Dft w1.heap.size t D wr.heap.size from fun e => by have := HD.out.1.lt _ e; omega)
             have hw3 := hp_kept (hp_new w2 _) hg.kp hnd
             have hx3 := hp_kept (hp_alloc HT2.out.2.1 _) hg.kp hnd2
             have HG := hid (And.intro hg (And.intro hw3 hx3))
             clear hg hnd hnd2 hw3 hx3 x0 x1 x2 x3 x4 x5 x6 x7 x8 y8 y10)
          | (go_at_call 35
             (with_reducible show Calls _ _ _ w3 _)
             refine (tell_dk HG.out.1.dk HE.out.1 (by omega)).mono ?_
             rintro e w4 ⟨v4', rfl, ht4, hb4⟩
             obtain ⟨g1', l1, g2', l2, g3', l3, rfl, f1, f2, f3⟩ := ht4.ex
             have HT4 := hid (And.intro hb4 (And.intro f1 (And.intro f2 f3)))
             have hx5 := hp_alloc (hp_below HG.out.2.2 hb4 (hp_lt HG.out.2.2)) (.cells #[.slice g1' (filesD D').length l1, .slice g2' (safeD D').length l2, .int .i64 D'.turns.length, .slice g3' D'.files.length l3, .int .i64 (heldD D' : Nat), .int .i64 D'.files.length, .bool D'.off] 81)
             obtain ⟨x0, -⟩ := cells9 hx5
             clear ht4 hb4 f1 f2 f3 hx5))
        obtain ⟨fl, hfl⟩ : ∃ fl, fl = (filesD D).length := ⟨_, rfl⟩
        obtain ⟨sl, hsl⟩ : ∃ sl, sl = (safeD D).length := ⟨_, rfl⟩
        obtain ⟨tn, hte⟩ : ∃ tn, tn = D.turns.length := ⟨_, rfl⟩
        obtain ⟨hc, hce⟩ : ∃ hc, hc = D.files.length := ⟨_, rfl⟩
        obtain ⟨hb, hbe⟩ : ∃ hb, hb = heldD D := ⟨_, rfl⟩
        obtain ⟨o, hoe⟩ : ∃ o, o = D.off := ⟨_, rfl⟩
        obtain ⟨fl2, hfl2⟩ : ∃ fl2, fl2 = (filesD D').length := ⟨_, rfl⟩
        obtain ⟨sl2, hsl2⟩ : ∃ sl2, sl2 = (safeD D').length := ⟨_, rfl⟩
        obtain ⟨tn2, hte2⟩ : ∃ tn2, tn2 = D'.turns.length := ⟨_, rfl⟩
        obtain ⟨hc2, hce2⟩ : ∃ hc2, hc2 = D'.files.length := ⟨_, rfl⟩
        obtain ⟨hb2, hbe2⟩ : ∃ hb2, hb2 = heldD D' := ⟨_, rfl⟩
        obtain ⟨o2, hoe2⟩ : ∃ o2, o2 = D'.off := ⟨_, rfl⟩
        have HG' := HG.out.2.1
        have HT2' := HT2.out.2.2
        have HT4' := HT4.out
        rw [← hfl, ← hsl, ← hte, ← hce, ← hbe, ← hoe] at HG'
        rw [← hfl, ← hsl, ← hce] at HT2'
        rw [← hfl2, ← hsl2, ← hce2] at HT4'
        rw [← hfl, ← hsl, ← hte, ← hce, ← hbe, ← hoe, ← hfl2, ← hsl2, ← hte2, ← hce2, ← hbe2, ← hoe2]
        rw [← hfl2, ← hsl2, ← hte2, ← hce2, ← hbe2, ← hoe2] at x0
        have hkA : Kept (fun k => k = w4.heap.size) w4 (w4.alloc (.cells #[.slice g1' fl2 l1, .slice g2' sl2 l2, .int .i64 tn2, .slice g3' hc2 l3, .int .i64 hb2, .int .i64 hc2, .bool o2] 81)) := (Kept.refl _ w4).alloc _
        have hz5 : (w4.alloc (.cells #[.slice g1' fl2 l1, .slice g2' sl2 l2, .int .i64 tn2, .slice g3' hc2 l3, .int .i64 hb2, .int .i64 hc2, .bool o2] 81)).heap[w4.heap.size]? = some (.cells #[.slice g1' fl2 l1, .slice g2' sl2 l2, .int .i64 tn2, .slice g3' hc2 l3, .int .i64 hb2, .int .i64 hc2, .bool o2] 81 (0, 0)) := hp_new _ _
        obtain ⟨W5, hW5⟩ : ∃ W5, W5 = w4.alloc (.cells #[.slice g1' fl2 l1, .slice g2' sl2 l2, .int .i64 tn2, .slice g3' hc2 l3, .int .i64 hb2, .int .i64 hc2, .bool o2] 81) := ⟨_, rfl⟩
        rw [← hW5] at hkA hz5 x0 ⊢
        obtain ⟨z0, z1, z2, z3, z4, z5, z6⟩ := cells7 hz5
        have zf : ∀ q, W5.frozen? ⟨w4.heap.size, q, none⟩ = false := fun q => free_of_block hz5
        have hv5 := hp_kept (hp_below HG' HT4'.1 (hp_lt HG')) hkA (show w2.heap.size ≠ w4.heap.size by have := hp_lt HG'; have := HT4'.1.size; omega)
        obtain ⟨v0, v1, v2, v3, v4, v5, v6⟩ := cells7 hv5
        have hvz : w2.heap.size ≠ w4.heap.size := by have := hp_lt HG'; have := HT4'.1.size; omega
        have hvx : wr.heap.size ≠ w4.heap.size := by have := hp_lt HG.out.2.2; have := HT4'.1.size; omega
        have hdz : w1.heap.size ≠ w4.heap.size := by have := hp_lt HG'; have := HT4'.1.size; omega
        clear hW5
        have hround : DkT w4 w1.heap.size t' D' ∧ WD (2 * (k + 1)) D' ∧ (∀ q, Dft w1.heap.size t' D' q → w1.heap.size ≤ q) ∧ Below w1.heap.size w1 w4 := by
          obtain ⟨hg, -⟩ := HG.out
          obtain ⟨hd, hW, hlo, hbr, hbw⟩ := HD.out
          have b2 : Below wr.heap.size wr (w2.alloc (.cells #[.slice b1 (filesD D).length k1, .slice b2 (safeD D).length k2, .int .i64 D.turns.length, .slice b3 D.files.length k3, .int .i64 (heldD D : Nat), .int .i64 D.files.length, .bool D.off] 81)) := HT2.out.1.alloc HT2.out.1.size _
          have b12 : Below w1.heap.size w1 w3 := (hbr.trans (b2.mono hbr.size)).trans (hg.kp.below (Nat.le_trans hbr.size b2.size) (fun q hq e => by have := hlo q e; omega))
          refine ⟨hg.dk.below HT4.out.1, HE.out.1, fun q e => ?_, b12.trans (HT4.out.1.mono b12.size)⟩
          rcases hg.ft q e with e | e
          · exact hlo q e
          · exact Nat.le_trans (Nat.le_trans hbr.size b2.size) e
        have hS6 : Alike D D' → ∀ W', Kept (fun k => k = w4.heap.size) w4 W' → Calls Tryz.prog 40 #[.agg #[.slice b1 fl k1, .slice b2 sl k2, .int .i64 tn, .slice b3 hc k3, .int .i64 hb, .int .i64 hc, .bool o], .agg #[.slice g1' fl l1, .slice g2' sl l2, .int .i64 tn, .slice g3' hc l3, .int .i64 hb, .int .i64 hc, .bool o]] W' fun x w' => x = .returned (.bool true) ∧ Below W'.heap.size W' w' := by
          intro hal W' hk'
          obtain ⟨hg, -⟩ := HG.out
          obtain ⟨f1, f2, f3⟩ := HT2'
          obtain ⟨hb4, y1, y2, y3⟩ := HT4'
          have hnd : ∀ q, Dft w1.heap.size t D q → q < wr.heap.size := fun q e => HD.out.1.lt q e
          have kA : Kept (fun k => Dft w1.heap.size t D k ∨ k = w4.heap.size) w2 W' := ((((Kept.refl (fun k => Dft w1.heap.size t D k ∨ k = w4.heap.size) w2).alloc _).trans hg.kp (fun _ _ e => .inl e)).trans (Kept.ofBelow hb4) (fun _ _ e => e.elim)).trans hk' (fun _ _ e => .inr e)
          have hz4 := hb4.size
          have hz3 := hg.kp.size
          have hnk : ∀ q, wr.heap.size ≤ q → q < w2.heap.size → ¬ (Dft w1.heap.size t D q ∨ q = w4.heap.size) := by
            intro q h1 h2 e
            rcases e with e | e
            · have := hnd q e; omega
            · simp at hz3; omega
          have hwz2 : (wr.alloc (.cells #[.int .i64 kind, .string name, .string to, .slice a1 data.length q1, .int .i64 nn, .slice a2 gs.length q2, .slice a3 gr.length q3, .int .i64 pn, .slice a4 pk.length q4] 43)).heap.size = wr.heap.size + 1 := by simp
          have T1 : Tl W' (filesD D) (safeD D) (pendD D) (.slice b1 fl k1) (.slice b2 sl k2) (.slice b3 hc k3) := by
            refine ⟨⟨_, f1.kept kA (fun q a b => hnk q (by omega) b)⟩, ⟨_, f2.kept kA (fun q a b => hnk q (by omega) b)⟩, ln_of_owns (ownsRow_kept f3 kA (fun q e => hnk q (by have := (f3.lt q e).1; omega) (f3.lt q e).2))⟩
          have T2 : Tl W' (filesD D) (safeD D) (pendD D) (.slice g1' fl l1) (.slice g2' sl l2) (.slice g3' hc l3) := by
            have E1 : fl2 = fl := by rw [hfl2, hfl, hal.files]
            have E2 : sl2 = sl := by rw [hsl2, hsl, hal.safe]
            have E4 : hc2 = hc := by rw [hce2, hce, hal.fi]
            rw [hal.files, E1] at y1
            rw [hal.safe, E2] at y2
            rw [hal.pend, E4] at y3
            refine ⟨⟨_, y1.kept hk' (fun q a b e => by omega)⟩, ⟨_, y2.kept hk' (fun q a b e => by omega)⟩, ln_of_owns (ownsRow_kept y3 hk' (fun q e e2 => by have := (y3.lt q e).2; omega))⟩
          have hW := HD.out.2.1
          have h1 := files_sz hW
          have h2 := safe_sz hW
          have h3 := files_len hW
          have h4 := safe_len hW
          have h5 := hW.hld
          have h6 := hW.room
          have h7 := hW.cnt
          have h8 := hW.lim
          have h9 : heldD D = (D.files.map Fi.peak).sum := rfl
          exact same_yes tn hb hc o T1 T2 (by omega) (by omega) (by simp [pendD]; omega) (by omega) (by omega)
        have hd5 := hround.1.kept hkA (fun q e e2 => by have := hround.1.lt q e; omega)
        obtain ⟨-, -, -, -, -, -, -, -, f8, -, f10, -⟩ := hd5.disk.cells
        have ROUND := hid hround
        have HS6 := hid hS6
        have HK5 := hid hkA
        have HN := hid (And.intro hfl (And.intro hsl (And.intro hte (And.intro hce (And.intro hbe (And.intro hoe (And.intro hfl2 (And.intro hsl2 (And.intro hte2 (And.intro hce2 (And.intro hbe2 hoe2)))))))))))
        have hst := HD.out.2.1.st
        have hrd := HD.out.2.1.rd
        clear hround hS6 hkA hfl hsl hte hce hbe hoe hfl2 hsl2 hte2 hce2 hbe2 hoe2 HG' HT2' HT4' hz5 hv5 hd5 HG HT2 HT4 HST HB0
        by_cases h9 : kind = 9 ∨ kind = 10
        · as_aux_lemma =>
          rcases h9 with rfl | rfl
          all_goals
            go_wp2
            go_roundw
            case rel =>
              obtain ⟨r1, r2, r3, r4⟩ := ROUND.out
              have bA : Below w4.heap.size w4 W5 := HK5.out.below (Nat.le_refl _) (fun q hq e => by omega)
              exact ⟨k + 1, t', D', by omega, by go_num, hid ⟨r1.below bA, r2, r3, r4.trans (bA.mono r4.size)⟩⟩
            case measure => simp [intOf]; omega
        have hk9 : (kind == 9) = false := by simp; omega
        have hk10 : (kind == 10) = false := by simp; omega
        rcases HE.out.2 (by omega) (by omega) with ⟨a1, a2, a4⟩ | ⟨a1, a2, a4⟩ | ⟨a2, a3, a1, a11, a5, a6, a7, a8, hal⟩ | ⟨a2, a3, a11, a5, a6, a7, a8, hal⟩ | ⟨a2, a3, a1, a5, a6, a7, a8⟩ | ⟨a2, a11, a5, a6, a7, a8, hal⟩ | ⟨a2, a11, a5, a6, a7, a8, hal⟩ | ⟨a2, a1, a5, a6, a8⟩
        · by_cases a11 : er = 11
          · have hal : Alike D D' := by rw [a4]; exact Alike.refl D
            have a5 : D'.st = D.st := by rw [a4]
            have a6 : D'.rd = D.rd := by rw [a4]
            have a8 : D'.off = D.off := by rw [a4]
            obtain ⟨hfl, hsl, hte, hce, hbe, hoe, hfl2, hsl2, hte2, hce2, hbe2, hoe2⟩ := HN.out
            have E1 : fl = fl2 := by rw [hfl2, hfl, hal.files]
            have E2 : sl = sl2 := by rw [hsl2, hsl, hal.safe]
            have E3 : tn = tn2 := by rw [hte2, hte, hal.tu]
            have E4 : hc = hc2 := by rw [hce2, hce, hal.fi]
            have E5 : hb = hb2 := by rw [hbe2, hbe, hal.held]
            have hsame := HS6.out hal
            clear hfl hsl hte hce hbe hfl2 hsl2 hte2 hce2 hbe2
            subst E1 E2 E3 E4 E5
            have HSame := hid hsame
            clear hsame
            rw [a5] at f8
            rw [a6] at f10
            have ho2 : o = o2 := by rw [hoe2, hoe, a8]
            clear hoe hoe2
            subst ho2
            subst a11
            cases o
            · as_aux_lemma =>
                go_wp2_with (first
                  | (go_at_call 32
                     refine (strokes_any _ _ _ f8).mono ?_
                     rintro e w9 ⟨rfl, e1⟩
                     rw [e1]
                     clear e1 w9)
                  | (go_at_call 33
                     refine (reads_any _ _ _ f10).mono ?_
                     rintro e w9 ⟨rfl, e1⟩
                     rw [e1]
                     clear e1 w9)
                  | (go_at_call 40
                     refine (HSame.out (W5.setCell ⟨w4.heap.size, 6, none⟩ (.bool false)) (HK5.out.setCell (p := ⟨w4.heap.size, 6, none⟩) (fun _ => rfl) _)).mono ?_
                     rintro e w7 ⟨rfl, hb7⟩
                     have H7 := hid hb7
                     clear hb7))
                go_roundw
                case rel =>
                  obtain ⟨r1, r2, r3, r4⟩ := ROUND.out
                  have kA : Kept (fun k => k = w4.heap.size) w4 (W5.setCell ⟨w4.heap.size, 6, none⟩ (.bool false)) := HK5.out.setCell (p := ⟨w4.heap.size, 6, none⟩) (fun _ => rfl) _
                  have bA : Below w4.heap.size w4 (W5.setCell ⟨w4.heap.size, 6, none⟩ (.bool false)) := kA.below (Nat.le_refl _) (fun q hq e => by omega)
                  exact ⟨k + 1, t', D', by omega, by go_num, hid ⟨r1.below (bA.trans (H7.out.mono bA.size)), r2, r3, r4.trans ((bA.trans (H7.out.mono bA.size)).mono r4.size)⟩⟩
                case measure => simp [intOf]; omega
            · as_aux_lemma =>
                go_wp2_with (first
                  | (go_at_call 32
                     refine (strokes_any _ _ _ f8).mono ?_
                     rintro e w9 ⟨rfl, e1⟩
                     rw [e1]
                     clear e1 w9)
                  | (go_at_call 33
                     refine (reads_any _ _ _ f10).mono ?_
                     rintro e w9 ⟨rfl, e1⟩
                     rw [e1]
                     clear e1 w9)
                  | (go_at_call 40
                     refine (HSame.out (W5.setCell ⟨w4.heap.size, 6, none⟩ (.bool true)) (HK5.out.setCell (p := ⟨w4.heap.size, 6, none⟩) (fun _ => rfl) _)).mono ?_
                     rintro e w7 ⟨rfl, hb7⟩
                     have H7 := hid hb7
                     clear hb7))
                go_roundw
                case rel =>
                  obtain ⟨r1, r2, r3, r4⟩ := ROUND.out
                  have kA : Kept (fun k => k = w4.heap.size) w4 (W5.setCell ⟨w4.heap.size, 6, none⟩ (.bool true)) := HK5.out.setCell (p := ⟨w4.heap.size, 6, none⟩) (fun _ => rfl) _
                  have bA : Below w4.heap.size w4 (W5.setCell ⟨w4.heap.size, 6, none⟩ (.bool true)) := kA.below (Nat.le_refl _) (fun q hq e => by omega)
                  exact ⟨k + 1, t', D', by omega, by go_num, hid ⟨r1.below (bA.trans (H7.out.mono bA.size)), r2, r3, r4.trans ((bA.trans (H7.out.mono bA.size)).mono r4.size)⟩⟩
                case measure => simp [intOf]; omega
          · have hal : Alike D D' := by rw [a4]; exact Alike.refl D
            have a5 : D'.st = D.st := by rw [a4]
            have a6 : D'.rd = D.rd := by rw [a4]
            have a8 : D'.off = D.off := by rw [a4]
            obtain ⟨hfl, hsl, hte, hce, hbe, hoe, hfl2, hsl2, hte2, hce2, hbe2, hoe2⟩ := HN.out
            have E1 : fl = fl2 := by rw [hfl2, hfl, hal.files]
            have E2 : sl = sl2 := by rw [hsl2, hsl, hal.safe]
            have E3 : tn = tn2 := by rw [hte2, hte, hal.tu]
            have E4 : hc = hc2 := by rw [hce2, hce, hal.fi]
            have E5 : hb = hb2 := by rw [hbe2, hbe, hal.held]
            have hsame := HS6.out hal
            clear hfl hsl hte hce hbe hfl2 hsl2 hte2 hce2 hbe2
            subst E1 E2 E3 E4 E5
            have HSame := hid hsame
            clear hsame
            rw [a5] at f8
            rw [a6] at f10
            have ho2 : o = o2 := by rw [hoe2, hoe, a8]
            clear hoe hoe2
            subst ho2
            have e0 : (er == 0) = false := by simpa using a1
            have e1 : (er == 11) = false := by simpa using a11
            cases o
            · as_aux_lemma =>
                go_wp2_with (first
                  | (go_at_call 32
                     refine (strokes_any _ _ _ f8).mono ?_
                     rintro e w9 ⟨rfl, e1⟩
                     rw [e1]
                     clear e1 w9)
                  | (go_at_call 33
                     refine (reads_any _ _ _ f10).mono ?_
                     rintro e w9 ⟨rfl, e1⟩
                     rw [e1]
                     clear e1 w9)
                  | (go_at_call 40
                     refine (HSame.out (W5.setCell ⟨w4.heap.size, 6, none⟩ (.bool false)) (HK5.out.setCell (p := ⟨w4.heap.size, 6, none⟩) (fun _ => rfl) _)).mono ?_
                     rintro e w7 ⟨rfl, hb7⟩
                     have H7 := hid hb7
                     clear hb7))
                go_roundw
                case rel =>
                  obtain ⟨r1, r2, r3, r4⟩ := ROUND.out
                  have kA : Kept (fun k => k = w4.heap.size) w4 (W5.setCell ⟨w4.heap.size, 6, none⟩ (.bool false)) := HK5.out.setCell (p := ⟨w4.heap.size, 6, none⟩) (fun _ => rfl) _
                  have bA : Below w4.heap.size w4 (W5.setCell ⟨w4.heap.size, 6, none⟩ (.bool false)) := kA.below (Nat.le_refl _) (fun q hq e => by omega)
                  exact ⟨k + 1, t', D', by omega, by go_num, hid ⟨r1.below (bA.trans (H7.out.mono bA.size)), r2, r3, r4.trans ((bA.trans (H7.out.mono bA.size)).mono r4.size)⟩⟩
                case measure => simp [intOf]; omega
            · as_aux_lemma =>
                go_wp2_with (first
                  | (go_at_call 32
                     refine (strokes_any _ _ _ f8).mono ?_
                     rintro e w9 ⟨rfl, e1⟩
                     rw [e1]
                     clear e1 w9)
                  | (go_at_call 33
                     refine (reads_any _ _ _ f10).mono ?_
                     rintro e w9 ⟨rfl, e1⟩
                     rw [e1]
                     clear e1 w9)
                  | (go_at_call 40
                     refine (HSame.out (W5.setCell ⟨w4.heap.size, 6, none⟩ (.bool true)) (HK5.out.setCell (p := ⟨w4.heap.size, 6, none⟩) (fun _ => rfl) _)).mono ?_
                     rintro e w7 ⟨rfl, hb7⟩
                     have H7 := hid hb7
                     clear hb7))
                go_roundw
                case rel =>
                  obtain ⟨r1, r2, r3, r4⟩ := ROUND.out
                  have kA : Kept (fun k => k = w4.heap.size) w4 (W5.setCell ⟨w4.heap.size, 6, none⟩ (.bool true)) := HK5.out.setCell (p := ⟨w4.heap.size, 6, none⟩) (fun _ => rfl) _
                  have bA : Below w4.heap.size w4 (W5.setCell ⟨w4.heap.size, 6, none⟩ (.bool true)) := kA.below (Nat.le_refl _) (fun q hq e => by omega)
                  exact ⟨k + 1, t', D', by omega, by go_num, hid ⟨r1.below (bA.trans (H7.out.mono bA.size)), r2, r3, r4.trans ((bA.trans (H7.out.mono bA.size)).mono r4.size)⟩⟩
                case measure => simp [intOf]; omega
        · rcases a2 with a2 | a2
          · have a5 : D'.st = D.st := by rw [a4]
            have a6 : D'.rd = D.rd := by rw [a4]
            have a8 : D'.off = D.off := by rw [a4]
            obtain ⟨hfl, hsl, hte, hce, hbe, hoe, hfl2, hsl2, hte2, hce2, hbe2, hoe2⟩ := HN.out
            clear hfl hsl hte hce hbe hfl2 hsl2 hte2 hce2 hbe2
            rw [a5] at f8
            rw [a6] at f10
            have ho2 : o = o2 := by rw [hoe2, hoe, a8]
            clear hoe hoe2
            subst ho2
            subst a1
            cases o
            · as_aux_lemma =>
                go_wp2_with (first
                  | (go_at_call 32
                     refine (strokes_any _ _ _ f8).mono ?_
                     rintro e w9 ⟨rfl, e1⟩
                     rw [e1]
                     clear e1 w9)
                  | (go_at_call 33
                     refine (reads_any _ _ _ f10).mono ?_
                     rintro e w9 ⟨rfl, e1⟩
                     rw [e1]
                     clear e1 w9)
                  | (go_at_call 40
                     refine (HSame.out (W5.setCell ⟨w4.heap.size, 6, none⟩ (.bool false)) (HK5.out.setCell (p := ⟨w4.heap.size, 6, none⟩) (fun _ => rfl) _)).mono ?_
                     rintro e w7 ⟨rfl, hb7⟩
                     have H7 := hid hb7
                     clear hb7))
                go_roundw
                case rel =>
                  obtain ⟨r1, r2, r3, r4⟩ := ROUND.out
                  have kA : Kept (fun k => k = w4.heap.size) w4 (W5.setCell ⟨w4.heap.size, 6, none⟩ (.bool false)) := HK5.out.setCell (p := ⟨w4.heap.size, 6, none⟩) (fun _ => rfl) _
                  have bA : Below w4.heap.size w4 (W5.setCell ⟨w4.heap.size, 6, none⟩ (.bool false)) := kA.below (Nat.le_refl _) (fun q hq e => by omega)
                  exact ⟨k + 1, t', D', by omega, by go_num, hid ⟨r1.below bA, r2, r3, r4.trans (bA.mono r4.size)⟩⟩
                case measure => simp [intOf]; omega
            · as_aux_lemma =>
                go_wp2_with (first
                  | (go_at_call 32
                     refine (strokes_any _ _ _ f8).mono ?_
                     rintro e w9 ⟨rfl, e1⟩
                     rw [e1]
                     clear e1 w9)
                  | (go_at_call 33
                     refine (reads_any _ _ _ f10).mono ?_
                     rintro e w9 ⟨rfl, e1⟩
                     rw [e1]
                     clear e1 w9)
                  | (go_at_call 40
                     refine (HSame.out (W5.setCell ⟨w4.heap.size, 6, none⟩ (.bool true)) (HK5.out.setCell (p := ⟨w4.heap.size, 6, none⟩) (fun _ => rfl) _)).mono ?_
                     rintro e w7 ⟨rfl, hb7⟩
                     have H7 := hid hb7
                     clear hb7))
                go_roundw
                case rel =>
                  obtain ⟨r1, r2, r3, r4⟩ := ROUND.out
                  have kA : Kept (fun k => k = w4.heap.size) w4 (W5.setCell ⟨w4.heap.size, 6, none⟩ (.bool true)) := HK5.out.setCell (p := ⟨w4.heap.size, 6, none⟩) (fun _ => rfl) _
                  have bA : Below w4.heap.size w4 (W5.setCell ⟨w4.heap.size, 6, none⟩ (.bool true)) := kA.below (Nat.le_refl _) (fun q hq e => by omega)
                  exact ⟨k + 1, t', D', by omega, by go_num, hid ⟨r1.below bA, r2, r3, r4.trans (bA.mono r4.size)⟩⟩
                case measure => simp [intOf]; omega
          · have a5 : D'.st = D.st := by rw [a4]
            have a6 : D'.rd = D.rd := by rw [a4]
            have a8 : D'.off = D.off := by rw [a4]
            obtain ⟨hfl, hsl, hte, hce, hbe, hoe, hfl2, hsl2, hte2, hce2, hbe2, hoe2⟩ := HN.out
            clear hfl hsl hte hce hbe hfl2 hsl2 hte2 hce2 hbe2
            rw [a5] at f8
            rw [a6] at f10
            have ho2 : o = o2 := by rw [hoe2, hoe, a8]
            clear hoe hoe2
            subst ho2
            subst a1
            cases o
            · as_aux_lemma =>
                go_wp2_with (first
                  | (go_at_call 32
                     refine (strokes_any _ _ _ f8).mono ?_
                     rintro e w9 ⟨rfl, e1⟩
                     rw [e1]
                     clear e1 w9)
                  | (go_at_call 33
                     refine (reads_any _ _ _ f10).mono ?_
                     rintro e w9 ⟨rfl, e1⟩
                     rw [e1]
                     clear e1 w9)
                  | (go_at_call 40
                     refine (HSame.out (W5.setCell ⟨w4.heap.size, 6, none⟩ (.bool false)) (HK5.out.setCell (p := ⟨w4.heap.size, 6, none⟩) (fun _ => rfl) _)).mono ?_
                     rintro e w7 ⟨rfl, hb7⟩
                     have H7 := hid hb7
                     clear hb7))
                go_roundw
                case rel =>
                  obtain ⟨r1, r2, r3, r4⟩ := ROUND.out
                  have kA : Kept (fun k => k = w4.heap.size) w4 (W5.setCell ⟨w4.heap.size, 6, none⟩ (.bool false)) := HK5.out.setCell (p := ⟨w4.heap.size, 6, none⟩) (fun _ => rfl) _
                  have bA : Below w4.heap.size w4 (W5.setCell ⟨w4.heap.size, 6, none⟩ (.bool false)) := kA.below (Nat.le_refl _) (fun q hq e => by omega)
                  exact ⟨k + 1, t', D', by omega, by go_num, hid ⟨r1.below bA, r2, r3, r4.trans (bA.mono r4.size)⟩⟩
                case measure => simp [intOf]; omega
            · as_aux_lemma =>
                go_wp2_with (first
                  | (go_at_call 32
                     refine (strokes_any _ _ _ f8).mono ?_
                     rintro e w9 ⟨rfl, e1⟩
                     rw [e1]
                     clear e1 w9)
                  | (go_at_call 33
                     refine (reads_any _ _ _ f10).mono ?_
                     rintro e w9 ⟨rfl, e1⟩
                     rw [e1]
                     clear e1 w9)
                  | (go_at_call 40
                     refine (HSame.out (W5.setCell ⟨w4.heap.size, 6, none⟩ (.bool true)) (HK5.out.setCell (p := ⟨w4.heap.size, 6, none⟩) (fun _ => rfl) _)).mono ?_
                     rintro e w7 ⟨rfl, hb7⟩
                     have H7 := hid hb7
                     clear hb7))
                go_roundw
                case rel =>
                  obtain ⟨r1, r2, r3, r4⟩ := ROUND.out
                  have kA : Kept (fun k => k = w4.heap.size) w4 (W5.setCell ⟨w4.heap.size, 6, none⟩ (.bool true)) := HK5.out.setCell (p := ⟨w4.heap.size, 6, none⟩) (fun _ => rfl) _
                  have bA : Below w4.heap.size w4 (W5.setCell ⟨w4.heap.size, 6, none⟩ (.bool true)) := kA.below (Nat.le_refl _) (fun q hq e => by omega)
                  exact ⟨k + 1, t', D', by omega, by go_num, hid ⟨r1.below bA, r2, r3, r4.trans (bA.mono r4.size)⟩⟩
                case measure => simp [intOf]; omega
        · as_aux_lemma =>
          obtain ⟨hfl, hsl, hte, hce, hbe, hoe, hfl2, hsl2, hte2, hce2, hbe2, hoe2⟩ := HN.out
          have E1 : fl = fl2 := by rw [hfl2, hfl, hal.files]
          have E2 : sl = sl2 := by rw [hsl2, hsl, hal.safe]
          have E3 : tn = tn2 := by rw [hte2, hte, hal.tu]
          have E4 : hc = hc2 := by rw [hce2, hce, hal.fi]
          have E5 : hb = hb2 := by rw [hbe2, hbe, hal.held]
          have hsame := HS6.out hal
          clear hfl hsl hte hce hbe hfl2 hsl2 hte2 hce2 hbe2
          subst E1 E2 E3 E4 E5
          have HSame := hid hsame
          clear hsame
          rw [a5] at f8
          rw [a6] at f10
          have ho : o = false := by rw [hoe, a7]
          have ho2 : o2 = false := by rw [hoe2, a8]
          clear hoe hoe2
          subst ho ho2
          have e0 : (er == 0) = false := by simpa using a1
          have e1 : (er == 11) = false := by simpa using a11
          go_wp2_with (first
            | (go_at_call 32
               refine (strokes_any _ _ _ f8).mono ?_
               rintro e w9 ⟨rfl, e1⟩
               rw [e1]
               clear e1 w9)
            | (go_at_call 33
               refine (reads_any _ _ _ f10).mono ?_
               rintro e w9 ⟨rfl, e1⟩
               rw [e1]
               clear e1 w9)
            | (go_at_call 40
               refine (HSame.out (W5.setCell ⟨w4.heap.size, 6, none⟩ (.bool false)) (HK5.out.setCell (p := ⟨w4.heap.size, 6, none⟩) (fun _ => rfl) _)).mono ?_
               rintro e w7 ⟨rfl, hb7⟩
               have H7 := hid hb7
               clear hb7))
          go_roundw
          case rel =>
            obtain ⟨r1, r2, r3, r4⟩ := ROUND.out
            have kA : Kept (fun k => k = w4.heap.size) w4 (W5.setCell ⟨w4.heap.size, 6, none⟩ (.bool false)) := HK5.out.setCell (p := ⟨w4.heap.size, 6, none⟩) (fun _ => rfl) _
            have bA : Below w4.heap.size w4 (W5.setCell ⟨w4.heap.size, 6, none⟩ (.bool false)) := kA.below (Nat.le_refl _) (fun q hq e => by omega)
            exact ⟨k + 1, t', D', by omega, by go_num, hid ⟨r1.below (bA.trans (H7.out.mono bA.size)), r2, r3, r4.trans ((bA.trans (H7.out.mono bA.size)).mono r4.size)⟩⟩
          case measure => simp [intOf]; omega
        · as_aux_lemma =>
          obtain ⟨hfl, hsl, hte, hce, hbe, hoe, hfl2, hsl2, hte2, hce2, hbe2, hoe2⟩ := HN.out
          have E1 : fl = fl2 := by rw [hfl2, hfl, hal.files]
          have E2 : sl = sl2 := by rw [hsl2, hsl, hal.safe]
          have E3 : tn = tn2 := by rw [hte2, hte, hal.tu]
          have E4 : hc = hc2 := by rw [hce2, hce, hal.fi]
          have E5 : hb = hb2 := by rw [hbe2, hbe, hal.held]
          have hsame := HS6.out hal
          clear hfl hsl hte hce hbe hfl2 hsl2 hte2 hce2 hbe2
          subst E1 E2 E3 E4 E5
          have HSame := hid hsame
          clear hsame
          rw [a5] at f8
          rw [a6] at f10
          have ho : o = false := by rw [hoe, a7]
          have ho2 : o2 = true := by rw [hoe2, a8]
          clear hoe hoe2
          subst ho ho2
          subst a11
          go_wp2_with (first
            | (go_at_call 32
               refine (strokes_any _ _ _ f8).mono ?_
               rintro e w9 ⟨rfl, e1⟩
               rw [e1]
               clear e1 w9)
            | (go_at_call 33
               refine (reads_any _ _ _ f10).mono ?_
               rintro e w9 ⟨rfl, e1⟩
               rw [e1]
               clear e1 w9)
            | (go_at_call 40
               refine (HSame.out (W5.setCell ⟨w4.heap.size, 6, none⟩ (.bool false)) (HK5.out.setCell (p := ⟨w4.heap.size, 6, none⟩) (fun _ => rfl) _)).mono ?_
               rintro e w7 ⟨rfl, hb7⟩
               have H7 := hid hb7
               clear hb7))
          go_roundw
          case rel =>
            obtain ⟨r1, r2, r3, r4⟩ := ROUND.out
            have kA : Kept (fun k => k = w4.heap.size) w4 (W5.setCell ⟨w4.heap.size, 6, none⟩ (.bool false)) := HK5.out.setCell (p := ⟨w4.heap.size, 6, none⟩) (fun _ => rfl) _
            have bA : Below w4.heap.size w4 (W5.setCell ⟨w4.heap.size, 6, none⟩ (.bool false)) := kA.below (Nat.le_refl _) (fun q hq e => by omega)
            exact ⟨k + 1, t', D', by omega, by go_num, hid ⟨r1.below (bA.trans (H7.out.mono bA.size)), r2, r3, r4.trans ((bA.trans (H7.out.mono bA.size)).mono r4.size)⟩⟩
          case measure => simp [intOf]; omega
        · as_aux_lemma =>
          obtain ⟨hfl, hsl, hte, hce, hbe, hoe, hfl2, hsl2, hte2, hce2, hbe2, hoe2⟩ := HN.out
          clear hfl hsl hte hce hbe hfl2 hsl2 hte2 hce2 hbe2
          rw [a5] at f8
          rw [a6] at f10
          have ho : o = false := by rw [hoe, a7]
          have ho2 : o2 = false := by rw [hoe2, a8]
          clear hoe hoe2
          subst ho ho2
          subst a1
          go_wp2_with (first
            | (go_at_call 32
               refine (strokes_any _ _ _ f8).mono ?_
               rintro e w9 ⟨rfl, e1⟩
               rw [e1]
               clear e1 w9)
            | (go_at_call 33
               refine (reads_any _ _ _ f10).mono ?_
               rintro e w9 ⟨rfl, e1⟩
               rw [e1]
               clear e1 w9)
            | (go_at_call 40
               refine (HSame.out (W5.setCell ⟨w4.heap.size, 6, none⟩ (.bool false)) (HK5.out.setCell (p := ⟨w4.heap.size, 6, none⟩) (fun _ => rfl) _)).mono ?_
               rintro e w7 ⟨rfl, hb7⟩
               have H7 := hid hb7
               clear hb7))
          go_roundw
          case rel =>
            obtain ⟨r1, r2, r3, r4⟩ := ROUND.out
            have kA : Kept (fun k => k = w4.heap.size) w4 (W5.setCell ⟨w4.heap.size, 6, none⟩ (.bool false)) := HK5.out.setCell (p := ⟨w4.heap.size, 6, none⟩) (fun _ => rfl) _
            have bA : Below w4.heap.size w4 (W5.setCell ⟨w4.heap.size, 6, none⟩ (.bool false)) := kA.below (Nat.le_refl _) (fun q hq e => by omega)
            exact ⟨k + 1, t', D', by omega, by go_num, hid ⟨r1.below bA, r2, r3, r4.trans (bA.mono r4.size)⟩⟩
          case measure => simp [intOf]; omega
        · by_cases a1 : er = 0
          · as_aux_lemma =>
            obtain ⟨hfl, hsl, hte, hce, hbe, hoe, hfl2, hsl2, hte2, hce2, hbe2, hoe2⟩ := HN.out
            have E1 : fl = fl2 := by rw [hfl2, hfl, hal.files]
            have E2 : sl = sl2 := by rw [hsl2, hsl, hal.safe]
            have E3 : tn = tn2 := by rw [hte2, hte, hal.tu]
            have E4 : hc = hc2 := by rw [hce2, hce, hal.fi]
            have E5 : hb = hb2 := by rw [hbe2, hbe, hal.held]
            have hsame := HS6.out hal
            clear hfl hsl hte hce hbe hfl2 hsl2 hte2 hce2 hbe2
            subst E1 E2 E3 E4 E5
            have HSame := hid hsame
            clear hsame
            rw [a5] at f8
            rw [a6] at f10
            have ho : o = false := by rw [hoe, a7]
            have ho2 : o2 = false := by rw [hoe2, a8]
            clear hoe hoe2
            subst ho ho2
            subst a1 a2
            go_wp2_with (first
              | (go_at_call 32
                 refine (strokes_any _ _ _ f8).mono ?_
                 rintro e w9 ⟨rfl, e1⟩
                 rw [e1]
                 clear e1 w9)
              | (go_at_call 33
                 refine (reads_any _ _ _ f10).mono ?_
                 rintro e w9 ⟨rfl, e1⟩
                 rw [e1]
                 clear e1 w9)
              | (go_at_call 40
                 refine (HSame.out (W5.setCell ⟨w4.heap.size, 6, none⟩ (.bool false)) (HK5.out.setCell (p := ⟨w4.heap.size, 6, none⟩) (fun _ => rfl) _)).mono ?_
                 rintro e w7 ⟨rfl, hb7⟩
                 have H7 := hid hb7
                 clear hb7))
            go_roundw
            case rel =>
              obtain ⟨r1, r2, r3, r4⟩ := ROUND.out
              have kA : Kept (fun k => k = w4.heap.size) w4 (W5.setCell ⟨w4.heap.size, 6, none⟩ (.bool false)) := HK5.out.setCell (p := ⟨w4.heap.size, 6, none⟩) (fun _ => rfl) _
              have bA : Below w4.heap.size w4 (W5.setCell ⟨w4.heap.size, 6, none⟩ (.bool false)) := kA.below (Nat.le_refl _) (fun q hq e => by omega)
              exact ⟨k + 1, t', D', by omega, by go_num, hid ⟨r1.below (bA.trans (H7.out.mono bA.size)), r2, r3, r4.trans ((bA.trans (H7.out.mono bA.size)).mono r4.size)⟩⟩
            case measure => simp [intOf]; omega
          · as_aux_lemma =>
            obtain ⟨hfl, hsl, hte, hce, hbe, hoe, hfl2, hsl2, hte2, hce2, hbe2, hoe2⟩ := HN.out
            have E1 : fl = fl2 := by rw [hfl2, hfl, hal.files]
            have E2 : sl = sl2 := by rw [hsl2, hsl, hal.safe]
            have E3 : tn = tn2 := by rw [hte2, hte, hal.tu]
            have E4 : hc = hc2 := by rw [hce2, hce, hal.fi]
            have E5 : hb = hb2 := by rw [hbe2, hbe, hal.held]
            have hsame := HS6.out hal
            clear hfl hsl hte hce hbe hfl2 hsl2 hte2 hce2 hbe2
            subst E1 E2 E3 E4 E5
            have HSame := hid hsame
            clear hsame
            rw [a5] at f8
            rw [a6] at f10
            have ho : o = false := by rw [hoe, a7]
            have ho2 : o2 = false := by rw [hoe2, a8]
            clear hoe hoe2
            subst ho ho2
            subst a2
            have e0 : (er == 0) = false := by simpa using a1
            have e1 : (er == 11) = false := by simpa using a11
            go_wp2_with (first
              | (go_at_call 32
                 refine (strokes_any _ _ _ f8).mono ?_
                 rintro e w9 ⟨rfl, e1⟩
                 rw [e1]
                 clear e1 w9)
              | (go_at_call 33
                 refine (reads_any _ _ _ f10).mono ?_
                 rintro e w9 ⟨rfl, e1⟩
                 rw [e1]
                 clear e1 w9)
              | (go_at_call 40
                 refine (HSame.out (W5.setCell ⟨w4.heap.size, 6, none⟩ (.bool false)) (HK5.out.setCell (p := ⟨w4.heap.size, 6, none⟩) (fun _ => rfl) _)).mono ?_
                 rintro e w7 ⟨rfl, hb7⟩
                 have H7 := hid hb7
                 clear hb7))
            go_roundw
            case rel =>
              obtain ⟨r1, r2, r3, r4⟩ := ROUND.out
              have kA : Kept (fun k => k = w4.heap.size) w4 (W5.setCell ⟨w4.heap.size, 6, none⟩ (.bool false)) := HK5.out.setCell (p := ⟨w4.heap.size, 6, none⟩) (fun _ => rfl) _
              have bA : Below w4.heap.size w4 (W5.setCell ⟨w4.heap.size, 6, none⟩ (.bool false)) := kA.below (Nat.le_refl _) (fun q hq e => by omega)
              exact ⟨k + 1, t', D', by omega, by go_num, hid ⟨r1.below (bA.trans (H7.out.mono bA.size)), r2, r3, r4.trans ((bA.trans (H7.out.mono bA.size)).mono r4.size)⟩⟩
            case measure => simp [intOf]; omega
        · as_aux_lemma =>
          obtain ⟨hfl, hsl, hte, hce, hbe, hoe, hfl2, hsl2, hte2, hce2, hbe2, hoe2⟩ := HN.out
          have E1 : fl = fl2 := by rw [hfl2, hfl, hal.files]
          have E2 : sl = sl2 := by rw [hsl2, hsl, hal.safe]
          have E3 : tn = tn2 := by rw [hte2, hte, hal.tu]
          have E4 : hc = hc2 := by rw [hce2, hce, hal.fi]
          have E5 : hb = hb2 := by rw [hbe2, hbe, hal.held]
          have hsame := HS6.out hal
          clear hfl hsl hte hce hbe hfl2 hsl2 hte2 hce2 hbe2
          subst E1 E2 E3 E4 E5
          have HSame := hid hsame
          clear hsame
          rw [a5] at f8
          rw [a6] at f10
          have ho : o = false := by rw [hoe, a7]
          have ho2 : o2 = true := by rw [hoe2, a8]
          clear hoe hoe2
          subst ho ho2
          subst a11 a2
          go_wp2_with (first
            | (go_at_call 32
               refine (strokes_any _ _ _ f8).mono ?_
               rintro e w9 ⟨rfl, e1⟩
               rw [e1]
               clear e1 w9)
            | (go_at_call 33
               refine (reads_any _ _ _ f10).mono ?_
               rintro e w9 ⟨rfl, e1⟩
               rw [e1]
               clear e1 w9)
            | (go_at_call 40
               refine (HSame.out (W5.setCell ⟨w4.heap.size, 6, none⟩ (.bool false)) (HK5.out.setCell (p := ⟨w4.heap.size, 6, none⟩) (fun _ => rfl) _)).mono ?_
               rintro e w7 ⟨rfl, hb7⟩
               have H7 := hid hb7
               clear hb7))
          go_roundw
          case rel =>
            obtain ⟨r1, r2, r3, r4⟩ := ROUND.out
            have kA : Kept (fun k => k = w4.heap.size) w4 (W5.setCell ⟨w4.heap.size, 6, none⟩ (.bool false)) := HK5.out.setCell (p := ⟨w4.heap.size, 6, none⟩) (fun _ => rfl) _
            have bA : Below w4.heap.size w4 (W5.setCell ⟨w4.heap.size, 6, none⟩ (.bool false)) := kA.below (Nat.le_refl _) (fun q hq e => by omega)
            exact ⟨k + 1, t', D', by omega, by go_num, hid ⟨r1.below (bA.trans (H7.out.mono bA.size)), r2, r3, r4.trans ((bA.trans (H7.out.mono bA.size)).mono r4.size)⟩⟩
          case measure => simp [intOf]; omega
        · obtain ⟨hfl, hsl, hte, hce, hbe, hoe, hfl2, hsl2, hte2, hce2, hbe2, hoe2⟩ := HN.out
          clear hfl hsl hte hce hbe hfl2 hsl2 hte2 hce2 hbe2
          rw [a5] at f8
          rw [a6] at f10
          have ho2 : o = o2 := by rw [hoe2, hoe, a8]
          clear hoe hoe2
          subst ho2
          subst a1 a2
          cases o
          · as_aux_lemma =>
              go_wp2_with (first
                | (go_at_call 32
                   refine (strokes_any _ _ _ f8).mono ?_
                   rintro e w9 ⟨rfl, e1⟩
                   rw [e1]
                   clear e1 w9)
                | (go_at_call 33
                   refine (reads_any _ _ _ f10).mono ?_
                   rintro e w9 ⟨rfl, e1⟩
                   rw [e1]
                   clear e1 w9)
                | (go_at_call 40
                   refine (HSame.out (W5.setCell ⟨w4.heap.size, 6, none⟩ (.bool false)) (HK5.out.setCell (p := ⟨w4.heap.size, 6, none⟩) (fun _ => rfl) _)).mono ?_
                   rintro e w7 ⟨rfl, hb7⟩
                   have H7 := hid hb7
                   clear hb7))
              go_roundw
              case rel =>
                obtain ⟨r1, r2, r3, r4⟩ := ROUND.out
                have kA : Kept (fun k => k = w4.heap.size) w4 (W5.setCell ⟨w4.heap.size, 6, none⟩ (.bool false)) := HK5.out.setCell (p := ⟨w4.heap.size, 6, none⟩) (fun _ => rfl) _
                have bA : Below w4.heap.size w4 (W5.setCell ⟨w4.heap.size, 6, none⟩ (.bool false)) := kA.below (Nat.le_refl _) (fun q hq e => by omega)
                exact ⟨k + 1, t', D', by omega, by go_num, hid ⟨r1.below bA, r2, r3, r4.trans (bA.mono r4.size)⟩⟩
              case measure => simp [intOf]; omega
          · as_aux_lemma =>
              go_wp2_with (first
                | (go_at_call 32
                   refine (strokes_any _ _ _ f8).mono ?_
                   rintro e w9 ⟨rfl, e1⟩
                   rw [e1]
                   clear e1 w9)
                | (go_at_call 33
                   refine (reads_any _ _ _ f10).mono ?_
                   rintro e w9 ⟨rfl, e1⟩
                   rw [e1]
                   clear e1 w9)
                | (go_at_call 40
                   refine (HSame.out (W5.setCell ⟨w4.heap.size, 6, none⟩ (.bool true)) (HK5.out.setCell (p := ⟨w4.heap.size, 6, none⟩) (fun _ => rfl) _)).mono ?_
                   rintro e w7 ⟨rfl, hb7⟩
                   have H7 := hid hb7
                   clear hb7))
              go_roundw
              case rel =>
                obtain ⟨r1, r2, r3, r4⟩ := ROUND.out
                have kA : Kept (fun k => k = w4.heap.size) w4 (W5.setCell ⟨w4.heap.size, 6, none⟩ (.bool true)) := HK5.out.setCell (p := ⟨w4.heap.size, 6, none⟩) (fun _ => rfl) _
                have bA : Below w4.heap.size w4 (W5.setCell ⟨w4.heap.size, 6, none⟩ (.bool true)) := kA.below (Nat.le_refl _) (fun q hq e => by omega)
                exact ⟨k + 1, t', D', by omega, by go_num, hid ⟨r1.below bA, r2, r3, r4.trans (bA.mono r4.size)⟩⟩
              case measure => simp [intOf]; omega
      · have i3 : ¬ (k : Int) < (xs.length : Int) := by omega
        have HL := hid (HB.out.trans (hbr.mono HB.out.size))
        clear hd hW hlo hbr HR
        go_wp2_with (
          go_at_call 12
          refine (known_any wr).mono ?_
          rintro e w9 ⟨rfl, hb9⟩
          have H9 := hid hb9
          clear hb9)
        go_ret
        exact ⟨rfl, HL.out.trans (H9.out.mono HL.out.size)⟩
  · exact refused_no room most v xs w h hg

end Go.Proofs.YtlmompdfombgeaaGreat
