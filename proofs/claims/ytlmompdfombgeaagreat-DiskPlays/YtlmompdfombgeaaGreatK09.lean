import Derived.Test.YtlmompdfombgeaaGreatK07
import Derived.Test.YtlmompdfombgeaaGreatK02
namespace Go.Proofs.YtlmompdfombgeaaGreat
open Go.RowKit Go.MapKept

theorem cells2 {w : World} {p : Nat} {a b : Value} {t : TypeId} (h : w.heap[p]? = some (.cells #[a, b] t (0, 0))) : w.cell? ⟨p, 0, none⟩ = some a ∧ w.cell? ⟨p, 1, none⟩ = some b := by
  refine ⟨?_, ?_⟩ <;> (rw [cell_of_row w p _ _ _ _ h]; rfl)

theorem own_some {w : World} {B : Nat} {e : TypeId} {size : Nat} {v : Value} {n : Nat} {xs : List Value} (h : w.ownsRow B e size v n xs) (hn : 0 < n) : ∃ g c, v = .slice (some ⟨g, 0, none⟩) n c := by
  rcases h.2 with ⟨e1, e2⟩ | ⟨g, cap, cur, e1, _⟩
  · omega
  · exact ⟨g, cap, e1⟩

theorem lose0 (B n g h cap cap' : Nat) (xs : List Int) (fs : List Bool) (w : World) (hd : w.ownsRow B 5 1 (.slice (some ⟨g, 0, none⟩) n cap) n (B8 xs)) (hf : w.ownsRow B 4 1 (.slice (some ⟨h, 0, none⟩) n cap') n (BB fs)) (hn : n ≤ 100000000) :
    Calls Tryz.prog 125 #[.agg #[.slice (some ⟨g, 0, none⟩) n cap, .slice (some ⟨h, 0, none⟩) n cap'], .int .i64 0] w fun x w' => x = .returned (.tuple #[]) ∧ w'.ownsRow B 5 1 (.slice (some ⟨g, 0, none⟩) n cap) n (B8 (loseTo 0 (min 16 n) xs fs)) ∧ Kept (fun k => k = g) w w' :=
  lose_any B 0 n g h cap cap' xs fs w hd hf hn (by omega)

theorem newFile_n (v : Value) (bs : List Int) (n : Nat) (hn : bs.length = n) (w : World) (h : Sl w v bs) (hl : n ≤ 1000000000) :
    Calls Tryz.prog 121 #[v] w fun x w' => ∃ p vs vd vf, x = .returned (.pointer (some ⟨p, 0, none⟩)) ∧ w.heap.size ≤ p ∧ FileAt w' w.heap.size p bs [] bs (List.replicate n false) n vs (.slice none 0 0) vd vf ∧ Below w.heap.size w w' := by
  subst hn
  exact newFile_any v bs w h hl

theorem copied_n (v : Value) (bs : List Int) (n : Nat) (hn : bs.length = n) (w : World) (h : Sl w v bs) (hl : n ≤ 1000000000) :
    Calls Tryz.prog 71 #[v] w fun x w' => x = .returned (.slice (some ⟨w.heap.size, 0, none⟩) n n) ∧ Own w' w.heap.size bs ∧ Below w.heap.size w w' := by
  subst hn
  exact copied_any v bs w h hl

set_option maxRecDepth 100000 in
set_option maxHeartbeats 3200000 in
theorem fcrash_one (B p g : Nat) (sv : Value) (w : World) (safe ys data : List Int) (fresh : List Bool) (peak : Int) (vs vp vd vf : Value) (h : FileAt w B p safe [.iface 124 sv] data fresh peak vs vp vd vf) (hs : Sn w sv ys) (hg : w.cell? ⟨g, 0, none⟩ = some (.int .i64 0)) (hB : B ≤ w.heap.size) (l1 : safe.length ≤ 10000000) (l2 : ys.length ≤ 10000000) (hpos : 0 < safe.length + ys.length) :
    Calls Tryz.prog 93 #[.pointer (some ⟨p, 0, none⟩), .agg #[.int .i64 1, .slice (some ⟨g, 0, none⟩) 1 1]] w fun x w' => ∃ X vs' vd' vf', x = .returned (.slice (some ⟨X, 0, none⟩) (safe ++ ys).length (safe ++ ys).length) ∧ w.heap.size ≤ X ∧ Own w' X (safe ++ ys) ∧
      FileAt w' B p (loseTo 0 (min 16 (safe ++ ys).length) (safe ++ ys) (frs safe.length ys.length)) [] (loseTo 0 (min 16 (safe ++ ys).length) (safe ++ ys) (frs safe.length ys.length)) (frs (safe ++ ys).length 0) (safe ++ ys).length vs' (.slice none 0 0) vd' vf' ∧ Kept (fun k => k = p) w w' := by
  obtain ⟨c0, c1, c2, c3, c4⟩ := cells5 h.blk
  have hpl := hp_lt h.blk
  have hgl := World.block_lt_of_cell? _ _ hg
  obtain ⟨gp, cp, hvp, hgp⟩ : ∃ gp cp, vp = .slice (some ⟨gp, 0, none⟩) 1 cp ∧ 1 ≤ cp := by
    rcases h.op.2 with ⟨_, h2⟩ | ⟨gp, cp, cur, h2, _, _, h3, _⟩
    · simp at h2
    · exact ⟨gp, cp, by simpa using h2, by simpa using h3⟩
  have cpd : w.cell? ⟨gp, 0, none⟩ = some (.iface 124 sv) := by
    have := h.op.cells (g := gp) (by rw [hvp]; rfl) 0 (.iface 124 sv) (by simp)
    rwa [add_lit, Nat.zero_add] at this
  have hgpl := World.block_lt_of_cell? _ _ cpd
  rw [hvp] at c1
  obtain ⟨asf, cas, hvs⟩ := own_shape h.os
  rw [hvs] at c0
  have hsl := sl_of_owns h.os
  rw [hvs] at hsl
  have H := hid h
  have HS := hid hs
  have HSL := hid hsl
  have hg0 := hg
  have HG0 := hid hg0
  clear h hs hsl c2 c3 c4 hg0
  have hmk := nilAhead124 sv
  have hmt := method124 sv
  go_enter Tryz.func93, Tryz.ntmps93
  go_wp2_with (
    go_at_call 124
    refine (safeRow_any _ safe _ (HSL.out.alloc _) (by omega)).mono ?_
    rintro e w1 ⟨A, Bf, rfl, hA, hF, g1, g2, g3, hb⟩
    have HX := hid (And.intro hA (And.intro hF (And.intro g1 (And.intro g2 (And.intro g3 hb)))))
    clear hA hF g1 g2 g3 hb)
  have hbx : (w.alloc (.cells #[.int .i64 1, .slice (some ⟨g, 0, none⟩) 1 1] 91)).heap.size = w.heap.size + 1 := by simp
  obtain ⟨W, hW⟩ : ∃ W, W = w1.alloc (.cells #[.slice (some ⟨A, 0, none⟩) safe.length safe.length, .slice (some ⟨Bf, 0, none⟩) safe.length safe.length] 109) := ⟨_, rfl⟩
  have hsize : w.heap.size + 1 ≤ w1.heap.size := by have := HX.out.2.2.2.2.2.size; rw [hbx] at this; exact this
  have hWr : W.heap[w1.heap.size]? = some (.cells #[.slice (some ⟨A, 0, none⟩) safe.length safe.length, .slice (some ⟨Bf, 0, none⟩) safe.length safe.length] 109 (0, 0)) := by rw [hW]; exact hp_new _ _
  have hWb : Below w.heap.size w W := by
    rw [hW]
    exact (((Below.refl _ w).alloc (Nat.le_refl _) _).trans (HX.out.2.2.2.2.2.mono (by rw [hbx]; omega))).alloc (by omega) _
  have hWx : W.heap[w.heap.size]? = some (.cells #[.int .i64 1, .slice (some ⟨g, 0, none⟩) 1 1] 91 (0, 0)) := by
    rw [hW]
    exact hp_alloc (hp_below (hp_new w _) HX.out.2.2.2.2.2 (by rw [hbx]; omega)) _
  have hWA : Own W A safe := by rw [hW]; exact hp_alloc HX.out.1 _
  have hWF : OwnB W Bf (List.replicate safe.length false) := by rw [hW]; exact hp_alloc HX.out.2.1 _
  have hAB : w.heap.size + 1 ≤ A ∧ w.heap.size + 1 ≤ Bf ∧ A < w1.heap.size ∧ Bf < w1.heap.size := by
    have a1 := HX.out.2.2.1
    have a2 := HX.out.2.2.2.1
    rw [hbx] at a1 a2
    exact ⟨a1, a2, hp_lt HX.out.1, hp_lt HX.out.2.1⟩
  have hWsz : W.heap.size = w1.heap.size + 1 := by rw [hW]; simp
  obtain ⟨r, hr⟩ : ∃ r, r = w1.heap.size := ⟨_, rfl⟩
  rw [← hW]
  rw [← hr] at hWr hsize hAB hWsz ⊢
  have d1 := (hWb.cell (World.block_lt_of_cell? _ _ c1)).trans c1
  have dg := (hWb.cell (World.block_lt_of_cell? _ _ hg)).trans hg
  have dp := (hWb.cell (World.block_lt_of_cell? _ _ cpd)).trans cpd
  obtain ⟨x0, x1⟩ := cells2 hWx
  obtain ⟨y0, y1⟩ := cells2 hWr
  have HI := hid (And.intro hWr (And.intro hWb (And.intro hWx (And.intro hWA hWF))))
  clear hW HX hbx hr hWr hWb hWx hWA hWF c0 c1 hg cpd
  go_quiet ((go_at_call 94; exact Calls.quiet_of_same (round_small 1 2 _ (by omega) (by omega) (by omega))))
  go_wp2
  refine wp_loop_rounds 2 ?_
  rw [rounds_succ]
  have hWl := HI.out.2.1.size
  have hWFo : W.ownsRow w.heap.size 4 1 (.slice (some ⟨Bf, 0, none⟩) safe.length safe.length) (List.replicate safe.length false).length (BB (List.replicate safe.length false)) := by
    have := HI.out.2.2.2.2.owns (B := w.heap.size) (by omega) (by simp; unfold maxLen; omega)
    simpa using this
  have hcall := doApp_any w.heap.size sv (.slice (some ⟨A, 0, none⟩) safe.length safe.length) (.slice (some ⟨Bf, 0, none⟩) safe.length safe.length) ys safe (List.replicate safe.length false) (W.drewN nq) (HS.out.below (below_drewN HI.out.2.1 nq)) (HI.out.2.2.2.1.owns (by omega) (by unfold maxLen; omega)) (show (W.drewN nq).ownsRow w.heap.size 4 1 _ _ _ from hWFo) hWl (by omega) (by omega) (by simp; omega)
  have HCall := hid hcall
  clear hcall
  go_wp2_with (
    go_at_call 189
    refine HCall.out.mono ?_
    rintro e w2 ⟨vd1, vf1, rfl, hd2, hf2, hl1, hl2, hk2⟩
    obtain ⟨gd, cd, rfl⟩ := own_some hd2 (by simp; omega)
    obtain ⟨gf, cf, rfl⟩ := own_some hf2 (by simp; omega)
    have hk2' : Kept (fun k => k = A ∨ k = Bf) W w2 := (by
      refine ⟨hk2.os, hk2.tape, hk2.output, hk2.size, fun k hk hn => hk2.block k hk (fun e => hn ?_)⟩
      rcases e with e | e
      · simp [Value.ownBlock] at e; exact .inl e.symm
      · simp [Value.ownBlock] at e; exact .inr e.symm)
    have hr2 := hp_kept HI.out.1 hk2' (by omega)
    obtain ⟨z0, z1⟩ := cells2 hr2
    have zf := (show ∀ o, w2.frozen? ⟨r, o, none⟩ = false from fun o => free_of_block hr2)
    have HY := hid (And.intro hd2 (And.intro hf2 (And.intro hl1 (And.intro hl2 (And.intro hk2' hr2)))))
    clear hd2 hf2 hl1 hl2 hk2 hk2' hr2)
  rw [rounds_succ]
  obtain ⟨n, hn⟩ : ∃ n, n = safe.length + ys.length := ⟨_, rfl⟩
  have hfrs : List.replicate safe.length false ++ List.replicate ys.length true = frs safe.length ys.length := rfl
  have hfin : ∀ W2 : World, W2 = (w2.setCell ⟨r, 0, none⟩ (.slice (some ⟨gd, 0, none⟩) n cd)).setCell ⟨r, 1, none⟩ (.slice (some ⟨gf, 0, none⟩) n cf) → W2.heap[r]? = some (.cells #[.slice (some ⟨gd, 0, none⟩) n cd, .slice (some ⟨gf, 0, none⟩) n cf] 109 (0, 0)) ∧ W2.ownsRow w.heap.size 5 1 (.slice (some ⟨gd, 0, none⟩) n cd) n (B8 (safe ++ ys)) ∧ W2.ownsRow w.heap.size 4 1 (.slice (some ⟨gf, 0, none⟩) n cf) n (BB (frs safe.length ys.length)) ∧ Below w.heap.size w W2 ∧ W2.heap[w.heap.size]? = some (.cells #[.int .i64 1, .slice (some ⟨g, 0, none⟩) 1 1] 91 (0, 0)) := by
    rintro W2 rfl
    obtain ⟨hd2, hf2, hl1, hl2, hk2, hr2⟩ := HY.out
    obtain ⟨hWr, hWb, hWx, hWA, hWF⟩ := HI.out
    rw [hfrs] at hf2
    rw [show (safe ++ ys).length = n by rw [hn]; simp] at hd2
    rw [show (frs safe.length ys.length).length = n by rw [hn, frs_len]] at hf2
    have K3 : Kept (fun k => k = r) w2 ((w2.setCell ⟨r, 0, none⟩ (.slice (some ⟨gd, 0, none⟩) n cd)).setCell ⟨r, 1, none⟩ (.slice (some ⟨gf, 0, none⟩) n cf)) := ((Kept.refl (fun k => k = r) w2).setCell (p := ⟨r, 0, none⟩) (fun _ => rfl) _).setCell (p := ⟨r, 1, none⟩) (fun _ => rfl) _
    refine ⟨set_block (i := 1) (set_block (i := 0) hr2 _) _, ?_, ?_, ?_, ?_⟩
    · exact ownsRow_kept hd2 K3 (fun k hk e => by subst e; exact own_ne_blk hd2 hr2 (by decide) hk)
    · exact ownsRow_kept hf2 K3 (fun k hk e => by subst e; exact own_ne_blk hf2 hr2 (by decide) hk)
    · refine hWb.trans ((hk2.mono (S' := fun k => k = A ∨ k = Bf ∨ k = r) ?_).trans K3 (fun i _ e => .inr (.inr e)) |>.below hWl ?_)
      · rintro i _ (e | e)
        · exact .inl e
        · exact .inr (.inl e)
      · intro k hk e; omega
    · exact hp_kept (hp_kept hWx hk2 (by omega)) K3 (by omega)
  rw [← hn]
  obtain ⟨W2, hW2⟩ : ∃ W2, W2 = (w2.setCell ⟨r, 0, none⟩ (.slice (some ⟨gd, 0, none⟩) n cd)).setCell ⟨r, 1, none⟩ (.slice (some ⟨gf, 0, none⟩) n cf) := ⟨_, rfl⟩
  rw [← hW2]
  obtain ⟨hr3, hd3, hf3, hb3, hx3⟩ := hfin W2 hW2
  obtain ⟨v0, v1⟩ := cells2 hr3
  obtain ⟨t0, t1⟩ := cells2 hx3
  have hn1 : n ≤ 20000000 := by omega
  have hn0 : 0 < n := by omega
  have dgl := (hb3.cell (World.block_lt_of_cell? _ _ HG0.out)).trans HG0.out
  have HN := hid hn
  have HJ := hid (And.intro hr3 (And.intro hd3 (And.intro hf3 (And.intro hb3 hx3))))
  clear hW2 hfin hn hr3 hd3 hf3 hb3 hx3 HY hfrs HCall hWFo HI z0 z1 zf x0 x1 y0 y1 d1 dg dp
  have eq1 : ((n : Int) + 16 - 1) / 16 ≤ 2000000 := by omega
  have eq2 : 0 < ((n : Int) + 16 - 1) / 16 := by omega
  obtain ⟨zs, hzs⟩ : ∃ zs, zs = safe ++ ys := ⟨_, rfl⟩
  obtain ⟨fs, hfs⟩ : ∃ fs, fs = frs safe.length ys.length := ⟨_, rfl⟩
  have hJ := HJ.out
  rw [← hzs, ← hfs] at hJ
  have HJ2 := hid hJ
  have hzl : zs.length = n := by rw [hzs, HN.out]; simp
  have HZS := hid (And.intro hzs (And.intro hfs hzl))
  clear hJ HJ hzs hfs hzl
  go_wp2_with (
    go_at_call 71
    refine (copied_n _ zs n HZS.out.2.2 _ (sl_of_owns HJ2.out.2.1) (by omega)).mono ?_
    rintro e w3 ⟨rfl, ho, hb⟩
    have b0 := (hb.cell (World.block_lt_of_cell? _ _ v0)).trans v0
    have b1 := (hb.cell (World.block_lt_of_cell? _ _ v1)).trans v1
    have bt := (hb.cell (World.block_lt_of_cell? _ _ t1)).trans t1
    have bg := (hb.cell (World.block_lt_of_cell? _ _ dgl)).trans dgl
    have HC3 := hid (And.intro ho hb)
    clear ho hb)
  refine wp_loop_rounds 2 ?_
  rw [rounds_succ]
  go_wp2_with fail
  go_region_with (
    first
    | (go_at_call 94
       refine (round_small 0 _ _ (by omega) eq2 (by omega)).mono ?_
       rintro e w4 ⟨rfl, rfl⟩)
    | (go_at_call 125; go_loud (
       refine (lose0 w.heap.size n gd gf cd cf zs fs w3.drew (show w3.drew.ownsRow _ _ _ _ _ _ from ownsRow_kept HJ2.out.2.1 (Kept.ofBelow HC3.out.2.drew) (fun _ _ e => e)) (show w3.drew.ownsRow _ _ _ _ _ _ from ownsRow_kept HJ2.out.2.2.1 (Kept.ofBelow HC3.out.2.drew) (fun _ _ e => e)) (by omega)).mono ?_
       rintro e w5 ⟨rfl, ho5, hk5⟩
       have HL5 := hid (And.intro ho5 hk5)
       clear ho5 hk5)))
  all_goals
    go_wp2
    rw [rounds_succ]
    obtain ⟨hr3, hd3, hf3, hb3, hx3⟩ := HJ2.out
    obtain ⟨ho3, hbb3⟩ := HC3.out
    obtain ⟨ho5, hk5'⟩ := HL5.out
    have hk5 : Kept (fun k => k = gd) w3 w5 := ⟨hk5'.os, hk5'.tape, hk5'.output, hk5'.size, hk5'.block⟩
    have hgdb := hd3.lt gd rfl
    have hr5 := hp_kept (hp_below hr3 hbb3 (hp_lt hr3)) hk5 (fun e => own_ne_blk hd3 hr3 (by decide) (by rw [e]; rfl))
    have hx5 := hp_kept (hp_below hx3 hbb3 (hp_lt hx3)) hk5 (fun e => own_ne_blk hd3 hx3 (by decide) (by rw [e]; rfl))
    have hb5 : Below w.heap.size w w5 := (hb3.trans (hbb3.mono hb3.size)).trans (hk5.below (Nat.le_trans hb3.size hbb3.size) (fun k hk e => by omega))
    have hX5 : Own w5 W2.heap.size zs := hp_kept ho3 hk5 (fun e => by omega)
    obtain ⟨m0, m1⟩ := cells2 hr5
    obtain ⟨m2, m3⟩ := cells2 hx5
    have hp5 := hp_below H.out.blk hb5 hpl
    have hll : (loseTo 0 (min 16 n) zs fs).length = n := by rw [loseTo_len, HZS.out.2.2]
    have HZ := hid (And.intro hb5 (And.intro hX5 (And.intro hp5 (And.intro hll (And.intro ho5 (And.intro hk5.size hb3.size))))))
    clear hr3 hd3 hf3 hb3 hx3 ho3 hbb3 ho5 hk5 hk5' hr5 hx5 hb5 hX5 hp5 hll HL5 HJ2 HC3
    go_wp2_with (
      go_at_call 121; go_loud (
      refine (newFile_n _ (loseTo 0 (min 16 n) zs fs) n HZ.out.2.2.2.1 _ (sl_of_owns HZ.out.2.2.2.2.1) (by omega)).mono ?_
      rintro e w6 ⟨q, vs', vd', vf', rfl, hq, hf6, hb6⟩
      obtain ⟨s0, s1, s2, s3, s4⟩ := cells5 hf6.blk
      obtain ⟨as0, ac0, e0⟩ := own_shape hf6.os
      obtain ⟨as2, ac2, e2⟩ := own_shape hf6.od
      obtain ⟨as3, ac3, e3⟩ := own_shape hf6.of
      have hp6 := hp_below HZ.out.2.2.1 hb6 (hp_lt HZ.out.2.2.1)
      obtain ⟨u0, u1, u2, u3, u4⟩ := cells5 hp6
      have uf := (show ∀ o, w6.frozen? ⟨p, o, none⟩ = false from fun o => free_of_block hp6)
      have HF6 := hid (And.intro hq (And.intro hf6 (And.intro hb6 hp6)))
      have HE := hid (And.intro e0 (And.intro e2 e3))
      rw [e0] at s0; rw [e2] at s2; rw [e3] at s3
      clear hq hf6 hb6 hp6 e0 e2 e3))
    go_ret
    obtain ⟨hb5, hX5, hp5, hll, ho5, hs5, hs3⟩ := HZ.out
    obtain ⟨hq, hf6, hb6, hp6⟩ := HF6.out
    obtain ⟨e0, e2, e3⟩ := HE.out
    obtain ⟨hzs, hfs, hzl⟩ := HZS.out
    rw [← hzs, hzl, ← hfs]
    rw [hll]
    rw [hll] at e0 e2
    have hf6l : (List.replicate n false).length = n := by simp
    rw [hf6l] at e3
    obtain ⟨WZ, hWZ⟩ : ∃ WZ, WZ = (((((w6.setCell ⟨p, 0, none⟩ (.slice as0 n ac0)).setCell ⟨p, 1, none⟩ (.slice none 0 0)).setCell ⟨p, 2, none⟩ (.slice as2 n ac2)).setCell ⟨p, 3, none⟩ (.slice as3 n ac3)).setCell ⟨p, 4, none⟩ (.int .i64 n)) := ⟨_, rfl⟩
    have KZ : Kept (fun k => k = p) w6 WZ := by
      rw [hWZ]
      exact (((((Kept.refl (fun k => k = p) w6).setCell (p := ⟨p, 0, none⟩) (fun _ => rfl) _).setCell (p := ⟨p, 1, none⟩) (fun _ => rfl) _).setCell (p := ⟨p, 2, none⟩) (fun _ => rfl) _).setCell (p := ⟨p, 3, none⟩) (fun _ => rfl) _).setCell (p := ⟨p, 4, none⟩) (fun _ => rfl) _
    have hblk : WZ.heap[p]? = some (.cells #[.slice as0 n ac0, .slice none 0 0, .slice as2 n ac2, .slice as3 n ac3, .int .i64 n] 112 (0, 0)) := by
      rw [hWZ]
      exact set_block (i := 4) (set_block (i := 3) (set_block (i := 2) (set_block (i := 1) (set_block (i := 0) hp6 _) _) _) _) _
    rw [← hWZ]
    have hz5 := hb5.size
    have low : ∀ (v : Value) (e : TypeId) (m : Nat) (xs : List Value), w6.ownsRow w5.heap.size e 1 v m xs → ∀ k, v.ownBlock = some k → k ≠ p := by
      intro v e m xs ho k hk
      have := (ho.lt k hk).1
      omega
    rw [e0, e2, e3] at hf6
    refine ⟨W2.heap.size, .slice as0 n ac0, .slice as2 n ac2, .slice as3 n ac3, rfl, hs3, ?_, ⟨hblk, ?_, owns_nil _ _ _ _, ?_, ?_, hf6.sep⟩, ?_⟩
    · exact hp_kept (hp_below hX5 hb6 (hp_lt hX5)) KZ (by have := hp_lt hX5; omega)
    · exact owns_base (ownsRow_kept hf6.os KZ (fun k hk e => low _ _ _ _ hf6.os k hk e)) (by omega)
    · exact owns_base (ownsRow_kept hf6.od KZ (fun k hk e => low _ _ _ _ hf6.od k hk e)) (by omega)
    · rw [frs_zero]
      exact owns_base (ownsRow_kept hf6.of KZ (fun k hk e => low _ _ _ _ hf6.of k hk e)) (by omega)
    · exact ((Kept.ofBelow (hb5.trans (hb6.mono hz5))).mono (fun _ _ e => e.elim)).trans KZ (fun _ _ e => e)

end Go.Proofs.YtlmompdfombgeaaGreat

namespace Go.Proofs.YtlmompdfombgeaaGreat
open Go.RowKit Go.MapKept Go.Maps Go.Sort Go.Shelf

/-- Whatever a value is, it reads as this. -/
def anyR : Value → Option (DataW Unit × List MemPlace) := fun _ => some (.lit (.bool true), [])

theorem owns1S (w : World) (b bM cM : Nat) (nm : ByteArray) (v : Value) (hb : w.heap[b]? = some (.map #[{ key := .string nm, val := v, born := bM }] cM)) (h1 : bM < cM) (hs : nm.size ≤ maxLen) : w.ownsMap Tryz.prog 9 anyR b 1 (.map [(.string nm.data.toList, .lit (.bool true))]) := by
  have hk : keyOf Tryz.prog 9 (.string nm) = some (.string nm.data.toList) := WideMaps.keyOf_string_mk Tryz.underlying9 hs
  refine ⟨_, cM, hb, ⟨by simp [maxLen], ⟨by simpa using h1, by simp, by simp⟩, ?_⟩, by simp, ?_⟩
  · intro x hx
    simp at hx
    subst hx
    exact ⟨(.string nm.data.toList, .lit (.bool true)), by simp [WideElems.rd, hk, anyR]⟩
  · simp [WideElems.rg, WideElems.rd, hk, anyR, DataW.insert]

theorem owns1I (w : World) (b bM cM : Nat) (n : Int) (v : Value) (hb : w.heap[b]? = some (.map #[{ key := .int .i64 n, val := v, born := bM }] cM)) (h1 : bM < cM) (hs : (Lit.int .i64 n).wf = true) : w.ownsMap Tryz.prog 3 anyR b 1 (.map [(.int .i64 n, .lit (.bool true))]) := by
  have hk : keyOf Tryz.prog 3 (.int .i64 n) = some (.int .i64 n) := keyOf_int_mk Tryz.underlying3 hs
  refine ⟨_, cM, hb, ⟨by simp [maxLen], ⟨by simpa using h1, by simp, by simp⟩, ?_⟩, by simp, ?_⟩
  · intro x hx
    simp at hx
    subst hx
    exact ⟨(.int .i64 n, .lit (.bool true)), by simp [WideElems.rd, hk, anyR]⟩
  · simp [WideElems.rg, WideElems.rd, hk, anyR, DataW.insert]

theorem sorted_one (b bM cM : Nat) (nm : ByteArray) (v : Value) (w : World) (hb : w.heap[b]? = some (.map #[{ key := .string nm, val := v, born := bM }] cM)) (h1 : bM < cM) (hs : nm.size ≤ maxLen) :
    Calls Tryz.prog 72 #[.map (some b)] w fun e w' => ∃ g cap, e = .returned (.slice (some ⟨g, 0, none⟩) 1 cap) ∧ w'.cell? ⟨g, 0, none⟩ = some (.string nm) ∧ Below w.heap.size w w' := by
  refine (sorted_any b 1 _ anyR w (owns1S w b bM cM nm v hb h1 hs) (by simp [Maps.size, maxLen]) (by simp [Maps.size])).mono ?_
  rintro e w' ⟨v', ss, rfl, hp, ho, hn, hbl⟩
  simp [strKeys, strOf] at hp
  subst hp
  obtain ⟨g, c, rfl⟩ := own_some ho (by simp)
  refine ⟨g, c, rfl, ?_, hbl⟩
  have := ho.cells (g := g) rfl 0 (encStr nm.data.toList) (by simp)
  rw [add_lit] at this
  simpa [encStr] using this

theorem making_one (d b bM cM : Nat) (v : Value) (w : World) (hc : w.cell? ⟨d, 2, none⟩ = some (.map (some b))) (hb : w.heap[b]? = some (.map #[{ key := .int .i64 1, val := v, born := bM }] cM)) (h1 : bM < cM) :
    Calls Tryz.prog 73 #[.pointer (some ⟨d, 0, none⟩)] w fun e w' => ∃ g cap, e = .returned (.slice (some ⟨g, 0, none⟩) 1 cap) ∧ w'.cell? ⟨g, 0, none⟩ = some (.int .i64 1) ∧ Below w.heap.size w w' := by
  refine (making_any d b 1 _ anyR w hc (owns1I w b bM cM 1 v hb h1 (by decide)) (by simp [Maps.size, maxLen]) (by simp [Maps.size])).mono ?_
  rintro e w' ⟨v', ss, rfl, hp, ho, hn, hbl⟩
  simp [intKeys, Go.intOf] at hp
  subst hp
  obtain ⟨g, c, rfl⟩ := own_some ho (by simp)
  refine ⟨g, c, rfl, ?_, hbl⟩
  have := ho.cells (g := g) rfl 0 (encZ 1) (by simp)
  rw [add_lit] at this
  simpa [encZ] using this

theorem Tryz.info93 : (Tryz.prog.info? 93).map (fun i => (i.zero, i.size, i.bytes)) = some (some (.agg #[.string ⟨#[]⟩, .slice none 0 0]), 2, 40) := by kernel_rfl

set_option maxRecDepth 100000 in
set_option maxHeartbeats 1600000 in
theorem told_one (b bM cM fn : Nat) (nm : ByteArray) (lb : Array Value) (da : Option Addr) (dn dc : Nat) (w : World) (hb : w.heap[b]? = some (.map #[{ key := .string nm, val := .int .i64 1, born := bM }] cM)) (h1 : bM < cM) (hs : nm.size ≤ maxLen)
    (he : ∀ args w, (callFunc fn args).run Tryz.prog w = .ok (.enter fn args) w) (hdata : ∀ w1, Below w.heap.size w w1 → Calls Tryz.prog fn (#[.int .i64 1] ++ lb) w1 fun x w2 => x = .returned (.slice da dn dc) ∧ Below w1.heap.size w1 w2) :
    Calls Tryz.prog 96 #[.map (some b), .func (.func fn) #[] lb] w fun x w' => ∃ X cap, x = .returned (.slice (some ⟨X, 0, none⟩) 1 cap) ∧ w'.cell? ⟨X, 0, none⟩ = some (.string nm) ∧ w'.cell? ⟨X, 1, none⟩ = some (.slice da dn dc) ∧ Below w.heap.size w w' := by
  obtain ⟨i0, hi, hz0, hz1, hz2⟩ := info_parts Tryz.info93
  have HB := hid hb
  have HD := hid hdata
  clear hb hdata
  go_enter Tryz.func96, Tryz.ntmps96
  go_wp2_with (
    go_at_call 72
    refine (sorted_one b bM cM nm _ w HB.out h1 hs).mono ?_
    rintro e w1 ⟨g, cap, rfl, hg, hb1⟩
    have hl := look_found (w := w1) Tryz.underlying47 Tryz.underlying9 (hp_below HB.out hb1 (hp_lt HB.out)) (key_str nm) (show Instr.findNow .string (.string nm) _ 0 = some (some (0, .int .i64 1)) by simp [Instr.findNow, Instr.sameNow, beq_self]) false
    simp only [Bool.false_eq_true, if_false] at hl
    have HB1 := hid hb1
    clear hb1)
  refine wp_loop_rounds 2 ?_
  rw [rounds_succ]
  go_wp2_with (first
    | (at_builtin; go_loud (
       refine wpList_append_lies _ rfl _ _ 75 rfl w.heap.size 93 i0 _ 2 40 Tryz.underlying75 hi hz0 hz1 hz2 rfl (by omega) (.slice none 0 0) 0 [] rfl (owns_nil _ _ _ _) ⟨w2.heap.size, 0, none⟩ 1 1 [.string nm, .slice da dn dc] rfl rfl (World.news_of_block (cs := #[.string nm, .slice da dn dc]) (t := 93) (fr := (0, 0)) (heap_alloc_new w2 _)) (by simp [Value.oneCell']) (by omega) (by unfold maxLen; omega) (by omega) (by have a := HB1.out.size; have c := HB2.out.size; simp; omega) (w2.heap.size + 1) (by simp) ?_
       intro gg cq w3 hown hgrow hat hgl
       have HG := hid (And.intro hown (And.intro hgrow hat))
       clear hown hgrow hat))
    | (refine (HD.out w1 HB1.out).mono ?_
       rintro e w2 ⟨rfl, hb2⟩
       have HB2 := hid hb2
       clear hb2))
  rw [rounds_succ]
  go_wp2
  go_ret
  obtain ⟨hown, hgrow, hat⟩ := HG.out
  have q0 := hown.cells (g := gg) rfl 0 (.string nm) (by simp)
  have q1 := hown.cells (g := gg) rfl 1 (.slice da dn dc) (by simp)
  rw [add_lit] at q0 q1
  refine ⟨gg, cq, rfl, by simpa using q0, by simpa using q1, ?_⟩
  have hb2 := HB2.out
  exact ((HB1.out.trans (hb2.mono HB1.out.size)).alloc (Nat.le_trans HB1.out.size hb2.size) _).grown hgrow (by have a := HB1.out.size; have c := hb2.size; simp; omega) (fun k e => by simp [Value.ownBlock] at e)

end Go.Proofs.YtlmompdfombgeaaGreat

namespace Go.Proofs.YtlmompdfombgeaaGreat
open Go.RowKit Go.MapKept

set_option maxRecDepth 100000 in
set_option maxHeartbeats 800000 in
theorem crash1_any (xw M cM bM : Nat) (v : Value) (w : World) (hx : w.cell? ⟨xw, 0, none⟩ = some (.map (some M))) (hM : w.heap[M]? = some (.map #[{ key := .int .i64 1, val := v, born := bM }] cM)) :
    Calls Tryz.prog 97 #[.int .i64 1, .pointer (some ⟨xw, 0, none⟩)] w fun x w' => x = .returned v ∧ w' = w := by
  have hl := look_found (w := w) Tryz.underlying131 Tryz.underlying3 hM (key_int 1) (show Instr.findNow (.int .i64) (.int .i64 1) _ 0 = some (some (0, v)) by simp [Instr.findNow, Instr.sameNow]) false
  simp only [Bool.false_eq_true, if_false] at hl
  clear hM
  go_enter Tryz.func97, Tryz.ntmps97
  go_wp2
  go_ret
  exact ⟨rfl, rfl⟩

set_option maxRecDepth 100000 in
set_option maxHeartbeats 800000 in
theorem newTally_nil (w : World) : Calls Tryz.prog 75 #[.slice none 0 0] w fun x w' => ∃ m, x = .returned (.agg #[.int .i64 0, .map (some m)]) ∧ w'.heap[m]? = some (.map #[] 0) ∧ w.heap.size ≤ m ∧ Below w.heap.size w w' := by
  have hmm := @run_makeMap Tryz.prog
  go_enter Tryz.func75, Tryz.ntmps75
  go_wp2
  refine wp_loop_rounds 1 ?_
  rw [rounds_succ]
  go_wp2
  refine bodyPost_ret (v := .agg #[.int .i64 0, .map (some (w.heap.size + 1))]) (by simp [results, Tryz.results75, go_sem]) rfl ⟨w.heap.size + 1, rfl, ?_, by omega, ?_⟩
  · have := hp_new (w.alloc (.cells #[.int .i64 0, .map (some (w.heap.size + 1))] 51)) (.map #[] 0)
    simpa using this
  · exact ((Below.refl _ _).alloc (Nat.le_refl _) _).alloc (by simp) _

set_option maxRecDepth 100000 in
set_option maxHeartbeats 1600000 in
theorem plan_none (d : Nat) (w : World) (room limit : Int) (L : Value) (made : Int) (N F vn : Value) (off : Bool) (st : Int) (k1 : Value) (rd : Int) (k2 : Value) (hD : DiskB w d room limit L made N F vn off st k1 rd k2) :
    Calls Tryz.prog 19 #[.pointer (some ⟨d, 0, none⟩), .agg #[.slice none 0 0, .slice none 0 0]] w fun x w' => x = .returned (.tuple #[]) ∧ ∃ m1 m2, DiskB w' d room limit L made N F vn off 0 (.map (some m1)) 0 (.map (some m2)) ∧ w'.heap[m1]? = some (.map #[] 0) ∧ w'.heap[m2]? = some (.map #[] 0) ∧ w.heap.size ≤ m1 ∧ w.heap.size ≤ m2 ∧ Kept (fun k => k = d) w w' := by
  obtain ⟨c0, c1, c2, c3, c4, c5, c6, c7, c8, c9, c10, c11⟩ := hD.cells
  have ff := hD.free
  have hdl := hp_lt hD
  have HD := hid hD
  clear hD c0 c1 c2 c3 c4 c5 c6 c7
  go_enter Tryz.func19, Tryz.ntmps19
  go_wp2_with (
    go_at_call 75
    refine (newTally_nil _).mono ?_
    rintro e w1 ⟨m1, rfl, hm1, hg1, hb1⟩
    have hd1 := (show DiskB w1 d room limit L made N F vn off st k1 rd k2 from hp_below (hp_alloc HD.out _) hb1 (by simp; omega))
    obtain ⟨-, -, -, -, -, -, -, -, x8, x9, x10, x11⟩ := hd1.cells
    have xf := hd1.free
    have bx0 := hb1.cell (p := ⟨w.heap.size, 0, none⟩) (by simp)
    have bx1 := hb1.cell (p := ⟨w.heap.size, 1, none⟩) (by simp)
    have hzz : w.heap.size < w1.heap.size := (by have := hb1.size; simp at this; omega)
    have H1 := hid (And.intro hd1 (And.intro hm1 (And.intro hg1 hb1)))
    clear hd1 hm1 hg1 hb1)
  have hd3 : DiskB ((w1.setCell ⟨d, 8, none⟩ (.int .i64 0)).setCell ⟨d, 9, none⟩ (.map (some m1))) d room limit L made N F vn off 0 (.map (some m1)) rd k2 := set_block (i := 9) (set_block (i := 8) H1.out.1 _) _
  obtain ⟨W, hW⟩ : ∃ W, W = (w1.setCell ⟨d, 8, none⟩ (.int .i64 0)).setCell ⟨d, 9, none⟩ (.map (some m1)) := ⟨_, rfl⟩
  rw [← hW] at hd3 ⊢
  have hkW : Kept (fun k => k = d) w1 W := by
    rw [hW]
    exact ((Kept.refl (fun k => k = d) w1).setCell (p := ⟨d, 8, none⟩) (fun _ => rfl) _).setCell (p := ⟨d, 9, none⟩) (fun _ => rfl) _
  have HW := hid (And.intro hd3 hkW)
  clear hW hd3 hkW
  go_wp2_with (
    go_at_call 75
    refine (newTally_nil _).mono ?_
    rintro e w2 ⟨m2, rfl, hm2, hg2, hb2⟩
    have hd2 := (show DiskB w2 d room limit L made N F vn off 0 (.map (some m1)) rd k2 from hp_below HW.out.1 hb2 (hp_lt HW.out.1))
    obtain ⟨-, -, -, -, -, -, -, -, y8, y9, y10, y11⟩ := hd2.cells
    have yf := hd2.free
    have H2 := hid (And.intro hd2 (And.intro hm2 (And.intro hg2 hb2)))
    clear hd2 hm2 hg2 hb2)
  go_end0
  obtain ⟨hd1, hm1, hg1, hb1⟩ := H1.out
  obtain ⟨hd2, hm2, hg2, hb2⟩ := H2.out
  obtain ⟨hd3, hkW⟩ := HW.out
  have hz1 := hb1.size
  have hz2 := hkW.size
  simp at hz1 hg1
  have K3 : Kept (fun k => k = d) w2 ((w2.setCell ⟨d, 10, none⟩ (.int .i64 0)).setCell ⟨d, 11, none⟩ (.map (some m2))) := ((Kept.refl (fun k => k = d) w2).setCell (p := ⟨d, 10, none⟩) (fun _ => rfl) _).setCell (p := ⟨d, 11, none⟩) (fun _ => rfl) _
  refine ⟨rfl, m1, m2, set_block (i := 11) (set_block (i := 10) hd2 _) _, ?_, ?_, by omega, by omega, ?_⟩
  · exact hp_kept (hp_below (hp_kept hm1 hkW (by omega)) hb2 (by have := hp_lt hm1; omega)) K3 (by omega)
  · exact hp_kept hm2 K3 (by omega)
  · have k1 : Kept (fun _ => False) w w1 := ((Kept.refl (fun _ => False) w).alloc _).trans (Kept.ofBelow hb1) (fun _ _ e => e)
    exact (((k1.mono (S' := fun k => k = d) (fun _ _ e => e.elim)).trans hkW (fun _ _ e => e)).trans (Kept.ofBelow hb2) (fun _ _ e => e.elim)).trans K3 (fun _ _ e => e)

end Go.Proofs.YtlmompdfombgeaaGreat
