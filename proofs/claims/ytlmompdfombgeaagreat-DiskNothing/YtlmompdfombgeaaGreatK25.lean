import Derived.Test.YtlmompdfombgeaaGreatK21
import Derived.Test.YtlmompdfombgeaaGreatK24
namespace Go.Proofs.YtlmompdfombgeaaGreat
open Go.RowKit Go.MapKept

theorem fl_low {w0 : World} {v : Value} {fs : List (Int × Int)} {g : Nat} (h : Fl w0 v fs) (hg : w0.heap.size ≤ g) : fs ≠ [] → v.ownBlock ≠ some g := by
  intro hne e
  obtain ⟨b, off, cap, rfl, -, -, hc⟩ := Rf.lits h (List.length_pos_iff.2 hne) (by omega)
  simp only [Value.ownBlock, Option.some.injEq] at e
  have h1 := hc 0 ((fs.flatMap fcs)[0]'(by rw [flat_len fcs 2 (fun _ => rfl)]; have := List.length_pos_iff.2 hne; omega)) (by simp)
  have := World.block_lt_of_cell? _ _ h1
  dsimp only at this
  omega

set_option maxRecDepth 100000 in
set_option maxHeartbeats 6400000 in
theorem step_plan (x : Sp) (w0 w : World) (d r : Nat) (off : Bool) (cs : Int) (fs : List (Int × Int)) (hx : x.ok w0) (hw0 : Below w0.heap.size w0 w) (hd0 : w0.heap.size ≤ d) (hr0 : w0.heap.size ≤ r) (hsm : x.small) (h : Bo w d r off cs fs) (h0 : 0 ≤ cs) (h1 : cs ≤ 1000) (_hl : fs.length ≤ 300) (hk : x.kind = 9) :
    Calls Tryz.prog 14 #[.pointer (some ⟨d, 0, none⟩), .pointer (some ⟨r, 0, none⟩), .agg #[.int .i64 x.kind, .string x.name, .string x.to, x.dv, .int .i64 x.n, x.sv, x.rv, .int .i64 x.pn, x.fv]] w (StepPost w d r cs) := by
  obtain ⟨kind, name, to, dv, data, nn, sv, gs, rv, gr, pn, fv, pk⟩ := x
  obtain ⟨-, -, hpn, hn1, hn2, hdt, hoct, hfs, -, hfr, -, hpk⟩ := hx
  obtain ⟨m1, m2, m3, m4, m5, m6, m7⟩ := hsm
  obtain ⟨a1, q1, e1, d1, d2⟩ := hdt.shape
  obtain ⟨a2, q2, e2, d3, d4⟩ := hfs.shape
  obtain ⟨a3, q3, e3, d5, d6⟩ := hfr.shape
  obtain ⟨a4, q4, e4, d7, d8⟩ := hpk.1.shape
  dsimp only at e1 e2 e3 e4 hn1 hn2 hk d1 d2 d3 d4 d5 d6 d7 d8 hdt hfs hfr hpk m1 m2 m3 m4 m5 m6 m7 hpn
  subst e1 e2 e3 e4
  dsimp only
  obtain rfl : kind = 9 := hk
  have hdt' : Rf w0 1 (.slice a1 data.length q1) data.length (B8 data) := by
    rw [← flat_u8]
    exact hdt
  have hsl0 : Sl w0 (.slice a1 data.length q1) data := hdt'.sl.1
  have hdl := h.1.lt
  have hrl := h.2.1.lt
  have hw0z := hw0.size
  have HX := hid (And.intro h (And.intro hw0 (And.intro hsl0 (And.intro hfs (And.intro hfr hpk)))))
  have HM7 := hid m7
  clear h hw0 hsl0 hfs hfr hpk hdt hdt' hoct m7
  have hbx : Below w.heap.size w (w.alloc (.cells #[.int .i64 9, .string name, .string to, .slice a1 data.length q1, .int .i64 nn, .slice a2 gs.length q2, .slice a3 gr.length q3, .int .i64 pn, .slice a4 pk.length q4] 43)) := (Below.refl _ _).alloc (Nat.le_refl _) _
  have HBX := hid hbx
  clear hbx
  go_enter Tryz.func14, Tryz.ntmps14
  go_wp2_with (
    go_at_call 51
    refine (roomy_any (.slice a1 data.length q1) data _ ((HX.out.2.2.1.below HX.out.2.1).below HBX.out) (by omega)).mono ?_
    rintro e w1 ⟨rfl, ho1, hb1⟩
    have es := (show (w.alloc (.cells #[.int .i64 9, .string name, .string to, .slice a1 data.length q1, .int .i64 nn, .slice a2 gs.length q2, .slice a3 gr.length q3, .int .i64 pn, .slice a4 pk.length q4] 43)).heap.size = w.heap.size + 1 from by simp)
    rw [es] at ho1 hb1 ⊢
    have hbw1 : Below w.heap.size w w1 := HBX.out.trans (hb1.mono (by omega))
    have x0 : w1.cell? ⟨w.heap.size, 0, none⟩ = some (.int .i64 9) := (hb1.cell (by simp)).trans (by simp [go_sem])
    have x1 : w1.cell? ⟨w.heap.size, 1, none⟩ = some (.string name) := (hb1.cell (by simp)).trans (by simp [go_sem])
    have x2 : w1.cell? ⟨w.heap.size, 2, none⟩ = some (.string to) := (hb1.cell (by simp)).trans (by simp [go_sem])
    have x3 : w1.cell? ⟨w.heap.size, 3, none⟩ = some (.slice a1 data.length q1) := (hb1.cell (by simp)).trans (by simp [go_sem])
    have x4 : w1.cell? ⟨w.heap.size, 4, none⟩ = some (.int .i64 nn) := (hb1.cell (by simp)).trans (by simp [go_sem])
    have x5 : w1.cell? ⟨w.heap.size, 5, none⟩ = some (.slice a2 gs.length q2) := (hb1.cell (by simp)).trans (by simp [go_sem])
    have x6 : w1.cell? ⟨w.heap.size, 6, none⟩ = some (.slice a3 gr.length q3) := (hb1.cell (by simp)).trans (by simp [go_sem])
    have x7 : w1.cell? ⟨w.heap.size, 7, none⟩ = some (.int .i64 pn) := (hb1.cell (by simp)).trans (by simp [go_sem])
    have x8 : w1.cell? ⟨w.heap.size, 8, none⟩ = some (.slice a4 pk.length q4) := (hb1.cell (by simp)).trans (by simp [go_sem])
    have hz1 : w.heap.size + 1 < w1.heap.size := hp_lt ho1
    have H1 := hid (And.intro ho1 (And.intro hbw1 (HX.out.1.below hbw1)))
    clear ho1 hb1 es hbw1)
  have hF1 : Fl w1 (.slice a2 gs.length q2) gs := (HX.out.2.2.2.1.below HX.out.2.1).below H1.out.2.1
  have hF2 : Fl w1 (.slice a3 gr.length q3) gr := (HX.out.2.2.2.2.1.below HX.out.2.1).below H1.out.2.1
  have HF := hid (And.intro hF1 hF2)
  clear hF1 hF2
  go_wp2_with (first
    | (go_at_call 61
       refine (planned_any (.slice a2 gs.length q2) (.slice a3 gr.length q3) gs gr w1 HF.out.1 HF.out.2 m4 m5).mono ?_
       rintro e w2 ⟨g, g', c1, c2, rfl, or1, or2, hgg, hb2⟩
       have t3 := (hb2.cell (World.block_lt_of_cell? _ _ x3)).trans x3
       have t5 := (hb2.cell (World.block_lt_of_cell? _ _ x5)).trans x5
       have t6 := (hb2.cell (World.block_lt_of_cell? _ _ x6)).trans x6
       have hg1 : w1.heap.size ≤ g := (or1.lt g rfl).1
       have hg2 : w1.heap.size ≤ g' := (or2.lt g' rfl).1
       have hzz := hb2.size
       have hb22 := hb2.alloc hb2.size (.cells #[.slice (some ⟨g, 0, none⟩) gs.length c1, .slice (some ⟨g', 0, none⟩) gr.length c2] 38)
       have H2 := hid (And.intro (or1.alloc (.cells #[.slice (some ⟨g, 0, none⟩) gs.length c1, .slice (some ⟨g', 0, none⟩) gr.length c2] 38)) (And.intro (or2.alloc (.cells #[.slice (some ⟨g, 0, none⟩) gs.length c1, .slice (some ⟨g', 0, none⟩) gr.length c2] 38)) (And.intro hgg hb22)))
       clear or1 or2 hgg hb2 hb22)
    | (go_at_call 19
       (
       refine (plan_z (H1.out.2.2.below H2.out.2.2.2).1 _ _ gs gr (fl_marked H2.out.1) (fl_marked H2.out.2.1) m4 m5 (by simp only [Value.ownBlock, ne_eq, Option.some.injEq]; omega) (by simp only [Value.ownBlock, ne_eq, Option.some.injEq]; omega)).mono ?_
       rintro e w3 ⟨rfl, hz3, hk3⟩
       have u3 := hk3.cell ((World.cell?_alloc_past _ _ _ (World.block_lt_of_cell? _ _ t3)).trans t3) (by dsimp only; omega)
       have u5 := hk3.cell ((World.cell?_alloc_past _ _ _ (World.block_lt_of_cell? _ _ t5)).trans t5) (by dsimp only; omega)
       have u6 := hk3.cell ((World.cell?_alloc_past _ _ _ (World.block_lt_of_cell? _ _ t6)).trans t6) (by dsimp only; omega)
       have p3 : w3.cell? ⟨w2.heap.size, 0, none⟩ = some (.slice (some ⟨g, 0, none⟩) gs.length c1) := hk3.cell (by simp [go_sem]) (by dsimp only; omega)
       have p4 : w3.cell? ⟨w2.heap.size, 1, none⟩ = some (.slice (some ⟨g', 0, none⟩) gr.length c2) := hk3.cell (by simp [go_sem]) (by dsimp only; omega)
       have H3 := hid (And.intro hz3 (And.intro (zr_over (H1.out.2.2.below H2.out.2.2.2).2.1 hk3 H1.out.2.2.2.2) hk3))
       clear hz3 hk3))
    | (go_at_call 62
       (
       refine (rplan_z H3.out.2.1 (.slice a2 gs.length q2) (.slice a3 gr.length q3) gs gr (fl_kept_if (HF.out.1.below H2.out.2.2.2) H3.out.2.2 (fl_low HX.out.2.2.2.1 hd0)) (fl_kept_if (HF.out.2.below H2.out.2.2.2) H3.out.2.2 (fl_low HX.out.2.2.2.2.1 hd0)) m4 m5).mono ?_
       rintro e w4 ⟨rfl, hz4, hk4⟩
       have v3 := hk4.cell u3 (by dsimp only; omega)
       have v5 := hk4.cell u5 (by dsimp only; omega)
       have v6 := hk4.cell u6 (by dsimp only; omega)
       have p5 := hk4.cell p3 (by dsimp only; omega)
       have p6 := hk4.cell p4 (by dsimp only; omega)
       have H4 := hid (And.intro (zd_over H3.out.1 H3.out.2.1 hk4 H1.out.2.2.2.2) (And.intro hz4 hk4))
       clear hz4 hk4))
    | (go_at_call 63
       refine (unplanned_any w1.heap.size g g' c1 c2 (.slice a2 gs.length q2) (.slice a3 gr.length q3) gs gr w4
         (ownsRow_kept (ownsRow_kept H2.out.1 H3.out.2.2 (fun k hk e => (by simp only [Value.ownBlock, Option.some.injEq] at hk; omega))) H4.out.2.2 (fun k hk e => (by simp only [Value.ownBlock, Option.some.injEq] at hk; omega)))
         (ownsRow_kept (ownsRow_kept H2.out.2.1 H3.out.2.2 (fun k hk e => (by simp only [Value.ownBlock, Option.some.injEq] at hk; omega))) H4.out.2.2 (fun k hk e => (by simp only [Value.ownBlock, Option.some.injEq] at hk; omega)))
         H2.out.2.2.1 (fl_kept_if (fl_kept_if (HF.out.1.below H2.out.2.2.2) H3.out.2.2 (fl_low HX.out.2.2.2.1 hd0)) H4.out.2.2 (fl_low HX.out.2.2.2.1 hr0)) (fl_kept_if (fl_kept_if (HF.out.2.below H2.out.2.2.2) H3.out.2.2 (fl_low HX.out.2.2.2.2.1 hd0)) H4.out.2.2 (fl_low HX.out.2.2.2.2.1 hr0)) m4 m5 (fl_low HX.out.2.2.2.1 (by omega)) (fl_low HX.out.2.2.2.2.1 (by omega)) (fl_low HX.out.2.2.2.2.1 (by omega))).mono ?_
       rintro e w5 ⟨rfl, hk5⟩
       have y3 := hk5.cell v3 (by dsimp only; omega)
       have H5 := hid hk5
       clear hk5))
  have hS : Own w5 (w.heap.size + 1) (rm data) ∧ Sl w5 (.slice a1 data.length q1) data ∧ Bos w5 d r (cs + 1) ∧ Kept (fun k => k = d ∨ k = r) w w5 := by
    obtain ⟨ho1, hb1, hz1⟩ := H1.out
    obtain ⟨or1, or2, hgg, hb2⟩ := H2.out
    obtain ⟨z3, r3, k3⟩ := H3.out
    obtain ⟨z4, r4, k4⟩ := H4.out
    have k5 := H5.out
    have bw2 := hb1.trans (hb2.mono hb1.size)
    have kw4 : Kept (fun k => k = d ∨ k = r) w w4 := (((Kept.ofBelow bw2).mono (S' := fun k => k = d ∨ k = r) (fun _ _ e => e.elim)).trans k3 (fun _ _ e => .inl e)).trans k4 (fun _ _ e => .inr e)
    have kw : Kept (fun k => k = d ∨ k = r) w w5 := kw4.trans k5 (fun i hi e => by omega)
    have b0 : Below w0.heap.size w0 w5 := HX.out.2.1.trans (kw.below hw0z (fun k hk e => by omega))
    have ho4 := hp_kept (hp_kept (hp_below ho1 hb2 (hp_lt ho1)) k3 (by omega)) k4 (by omega)
    have hz5 : Bo w5 d r off 0 gs := by
      obtain ⟨sv, rv, hb, hf, hn, hs⟩ := r4
      have l1 := (or1.lt g rfl).2
      have l2 := (or2.lt g' rfl).2
      have s3 := k3.size
      obtain ⟨cs1, o1⟩ := owns_block (ownsRow_kept (ownsRow_kept or1 k3 (fun k hk e => by simp only [Value.ownBlock, Option.some.injEq] at hk; omega)) k4 (fun k hk e => by simp only [Value.ownBlock, Option.some.injEq] at hk; omega)) g rfl
      obtain ⟨cs2, o2⟩ := owns_block (ownsRow_kept (ownsRow_kept or2 k3 (fun k hk e => by simp only [Value.ownBlock, Option.some.injEq] at hk; omega)) k4 (fun k hk e => by simp only [Value.ownBlock, Option.some.injEq] at hk; omega)) g' rfl
      refine ⟨z4.kept k5 (by omega) (fun b es c hbm e => ?_), ⟨sv, rv, hp_kept hb k5 (by omega), Rf.kept hf k5 (fun k hk e => by have := hn k hk; omega), fun k hk => by have := hn k hk; omega, hs⟩, hz1.2.2⟩
      rcases e with e | e
      · subst e; exact hp_ne o1 hbm (by simp) rfl
      · subst e; exact hp_ne o2 hbm (by simp) rfl
    exact ⟨hp_kept ho4 k5 (by omega), HX.out.2.2.1.below b0, ⟨_, _, gs, hz5, by omega, by omega, m4⟩, kw⟩
  have HS := hid hS
  clear hS
  go_wp2_with (
    go_at_call 68
    refine (left_any (.slice a1 data.length q1) data (w.heap.size + 1) w5 HS.out.2.1 (by omega) HS.out.1).mono ?_
    rintro e w9 ⟨rfl, hdn⟩
    have H9 := hid hdn
    clear hdn)
  go_loopw [16] (fun i wr => ∃ (k : Nat) (bs : List Int), k ≤ data.length + 40 ∧ i = .int .i64 k ∧ bs.length = data.length + 40 ∧ Own wr (w.heap.size + 1) bs ∧ Hid (Kept (fun k => k = w.heap.size + 1) w5 wr)) (fun i _ => data.length + 40 - (intOf i).toNat)
  case atStart =>
    obtain ⟨m, rfl⟩ := H9.out
    exact ⟨0, rm data, Nat.zero_le _, by go_num, by simp [rm], HS.out.1, hid ((Kept.refl _ _).drewN m)⟩
  case round =>
    obtain ⟨k, bs, hk9, rfl, hbs, ho9, HK⟩ := hrel
    by_cases hlt : k < data.length + 40
    · have cd := ho9.cell k bs[k] (by simp [hbs, hlt])
      have fz := free_of_block (o := k) ho9
      have i2 : (k : Int) < ((data.length + 40 : Nat) : Int) := by omega
      have i3 : (k : Int) < (data.length : Int) + 40 := by omega
      have HO := hid ho9
      clear ho9
      go_wp2
      go_roundw
      case rel => exact ⟨k + 1, bs.set k 99, by omega, by go_num, by simp [hbs], HO.out.set k 99, hid (HK.out.setCell (p := ⟨w.heap.size + 1, k, none⟩) (fun _ => rfl) _)⟩
      case measure => simp [intOf]; omega
    · have i2 : ¬ (k : Int) < ((data.length + 40 : Nat) : Int) := by omega
      have i3 : ¬ (k : Int) < (data.length : Int) + 40 := by omega
      have HO := hid ho9
      clear ho9
      go_wp2
      go_ret
      obtain ⟨so, ss, sb, sk⟩ := HS.out
      exact ⟨rfl, sb.wipe so HK.out (by omega) (by omega), sk.trans HK.out (fun i hi e => by omega)⟩

end Go.Proofs.YtlmompdfombgeaaGreat
