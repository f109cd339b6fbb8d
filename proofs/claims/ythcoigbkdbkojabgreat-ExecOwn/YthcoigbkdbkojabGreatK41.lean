import Derived.Test.YthcoigbkdbkojabGreatK40
set_option maxRecDepth 100000
namespace Go.Proofs.YthcoigbkdbkojabGreat
open Go.RowKit
section
variable {P : Program} {ops : Array Oper} {Q : Exit → Act → World → Prop} {md : Region.Mode} {S : World → Prop} {v : Value} {fuel : Nat} {listed : Array Bool} {a : Act} {w : World}
theorem tk (i : Nat) (oi : Oper) (hS : S w) (h : wpAnyH P md ops Q S fuel (listed.setIfInBounds i true) (a.put oi.dst v) w) (hi : ops[i]? = some oi := by rfl)
    (hb : (Region.noSelect ops && Region.free md ops listed i && (Region.ready md ops listed).contains i && Region.wanted oi (yielded ops a.tmps)) = true := by kernel_rfl)
    (hQ : ∀ c a w, Q (.panic c) (a.put oi.dst v) w → Q (.panic c) a w := by exact fun _ _ _ h => h) (hy : ∀ w, S w → (execOp a.eval oi).run P w = .ok (.value v) w := by (intro w h; (try dsimp only at h); go_simp; (try with_reducible rfl))) : wpAnyH P md ops Q S (fuel + 1) listed a w := by
  simp only [Bool.and_eq_true] at hb
  exact wpAnyH_take hi hb.1.1.1 hb.1.1.2 hb.1.2 hQ (.inl ⟨hb.2, hy⟩) hS h
theorem tks (i : Nat) (oi : Oper) (hS : S w) (h : wpAnyH P md ops Q S fuel (listed.setIfInBounds i true) (a.put oi.dst undef) w) (hi : ops[i]? = some oi := by rfl)
    (hb : (Region.noSelect ops && Region.free md ops listed i && (Region.ready md ops listed).contains i && !Region.wanted oi (yielded ops a.tmps)) = true := by kernel_rfl)
    (hQ : ∀ c a w, Q (.panic c) (a.put oi.dst undef) w → Q (.panic c) a w := by exact fun _ _ _ h => h) : wpAnyH P md ops Q S (fuel + 1) listed a w := by
  simp only [Bool.and_eq_true, Bool.not_eq_true'] at hb
  exact wpAnyH_take hi hb.1.1.1 hb.1.1.2 hb.1.2 hQ (.inr ⟨hb.2, rfl⟩) hS h
theorem rd (i : Nat) (o : Oper)
    (h : ∀ K' : Act → World → Prop, Shut (∀ a w, S w → (S w → wpAnyH P md ops Q S fuel (listed.setIfInBounds i true) a w) → K' a w) → if Region.wanted o (yielded ops a.tmps) = true then Oper.wp P o a w K' Q else K' (a.put o.dst undef) w) (hr : Region.ready md ops listed = [i] := by kernel_rfl) (ho : ops[i]? = some o := by rfl) : wpAnyH P md ops Q S (fuel + 1) listed a w :=
  wpAnyH_ready hr (by simp) (AllReadyH.cons ho h AllReadyH.nil)
end
theorem pua (l : List Value) (d : List Deferred) (n : Nat) (v : Value) : Act.put ⟨l.toArray, d⟩ (some n) v = ⟨(l.set n v).toArray, d⟩ := by
  simp [Act.put]
theorem puz {α : Type} (x y : α) (l : List α) : (x :: l).set 0 y = y :: l := rfl
theorem pus {α : Type} (x y : α) (n : Nat) (l : List α) : (x :: l).set (n + 1) y = x :: l.set n y := rfl
end Go.Proofs.YthcoigbkdbkojabGreat
namespace Go.Proofs.YthcoigbkdbkojabGreat
open Go.RowKit Go.MapKept
open V (hp_new hp_lt hp_below hp_alloc kl)
theorem neqI (o a b c n k i : Int) (t : ByteArray) (o' a' b' c' n' k' i' : Int) (t' : ByteArray) (e : (⟨o, a, b, c, n, k, i, t⟩ : Ins) = ⟨o', a', b', c', n', k', i', t'⟩) (w : World) : (binOp BinOp.neq 31 (.agg #[.int .i64 o, .int .i64 a, .int .i64 b, .int .i64 c, .int .i64 n, .int .i64 k, .int .i64 i, .string t]) (.agg #[.int .i64 o', .int .i64 a', .int .i64 b', .int .i64 c', .int .i64 n', .int .i64 k', .int .i64 i', .string t'])).run Tryz.prog w = .ok (.bool false) w := by
  injection e with e1 e2 e3 e4 e5 e6 e7 e8
  subst e1 e2 e3 e4 e5 e6 e7 e8
  simp [go_sem]
theorem rf_front {w : World} {m g n k c : Nat} {cs ds : List Value} (h : Rf w m (.slice (some ⟨g, 0, none⟩) (n + k) c) (n + k) (cs ++ ds)) (hl : cs.length = n * m) (hc : n + k ≤ c) : Rf w m (.slice (some ⟨g, 0, none⟩) n c) n cs := by
  obtain ⟨h1, h2, h3⟩ := h
  refine ⟨hl, fun u hu => h2 u (List.mem_append_left _ hu), ?_⟩
  rcases h3 with ⟨e, _⟩ | ⟨a, cap, e, q1, q2, q3⟩
  · cases e
  · injection e with e1 _ e3
    injection e1 with e1
    subst e1 e3
    exact .inr ⟨_, _, rfl, by omega, q2, fun j u hu => q3 j u (by rw [List.getElem?_append_left (by have := (List.getElem?_eq_some_iff.1 hu).1; exact this)]; exact hu)⟩
structure St (w : World) (nm : ByteArray) (ar : Int) (S1 S2 : Value) (W : World) : Prop where
  b1 : W.heap[w.heap.size]? = some (.cells #[.string nm, .int .i64 ar, S1] 34 (0, 0))
  b2 : W.heap[w.heap.size + 1]? = some (.cells #[.string nm, .int .i64 ar, S2] 34 (0, 0))
  hb : Below w.heap.size w W
theorem St.go {w W W' : World} {nm : ByteArray} {ar : Int} {S1 S2 : Value} (h : St w nm ar S1 S2 W) (hb : Below W.heap.size W W') : St w nm ar S1 S2 W' :=
  ⟨blk_of hb h.b1 (hp_lt h.b1), blk_of hb h.b2 (hp_lt h.b2), below_on h.hb hb⟩
set_option maxHeartbeats 12800000 in
theorem stand_any (nm : ByteArray) (ar : Int) (S A : Value) (xs : List Ins) (vs : List Vd) (g1 c1 g2 c2 : Nat) (w : World) (h : Rf w 8 S xs.length (xs.flatMap Ins.cells)) (h2 : Rf w 3 A vs.length (vs.flatMap vcs)) (hl : xs.length ≤ 1000) (hl2 : vs.length ≤ 1000)
    (h3 : Rf w 8 (.slice (some ⟨g1, 0, none⟩) (xs.length + 5) c1) (xs.length + 5) ((xsT xs 5).flatMap Ins.cells)) (h4 : Rf w 3 (.slice (some ⟨g2, 0, none⟩) (vs.length + 5) c2) (vs.length + 5) ((vsT vs 5).flatMap vcs)) (hc1 : xs.length + 5 ≤ c1) (hc2 : vs.length + 5 ≤ c2) :
    Calls Tryz.prog 16 #[.agg #[.string nm, .int .i64 ar, .slice (some ⟨g1, 0, none⟩) xs.length c1], .slice (some ⟨g2, 0, none⟩) vs.length c2, .agg #[.string nm, .int .i64 ar, S], A] w fun e w' => e = .returned (.bool true) ∧ Below w.heap.size w w' := by
  have hv5 : Rf w 3 (.slice (some ⟨g2, 0, none⟩) vs.length c2) vs.length (vs.flatMap vcs) := rf_front (k := 5) (ds := ((List.range 5).map mkV).flatMap vcs) (by have h5 := h4; unfold vsT at h5; rw [List.flatMap_append] at h5; exact h5) (flat_len vcs 3 vcs_len vs) hc2
  obtain ⟨n, hn⟩ : ∃ n, n = xs.length := ⟨_, rfl⟩
  obtain ⟨m, hm⟩ : ∃ m, m = vs.length := ⟨_, rfl⟩
  have hcm1 : c1 ≤ maxLen := by obtain ⟨_, _, e, _, q⟩ := h3.shape; injection e with _ _ e; rw [e]; exact q
  have hcm2 : c2 ≤ maxLen := by obtain ⟨_, _, e, _, q⟩ := h4.shape; injection e with _ _ e; rw [e]; exact q
  have HR0 := hid (And.intro h (And.intro h2 (And.intro h3 (And.intro h4 hv5))))
  have HL := hid (And.intro hn hm)
  obtain ⟨ao, cap, rfl, -, -⟩ := h.shape
  obtain ⟨bo, cap2, rfl, -, -⟩ := h2.shape
  have HSV := hid (fun (W : World) (hb : Below w.heap.size w W) => same38_any _ _ vs W hl2 (hv5.below hb) (h2.below hb))
  have H0 := hid (show St w nm ar (.slice (some ⟨g1, 0, none⟩) n c1) (.slice ao n cap) ((w.alloc (.cells #[.string nm, .int .i64 ar, .slice (some ⟨g1, 0, none⟩) n c1] 34)).alloc (.cells #[.string nm, .int .i64 ar, .slice ao n cap] 34)) from ⟨two1 w _ _, two2 w _ _, (below1 w _).alloc (by simp) _⟩)
  rw [← hm] at HSV
  rw [← hn, ← hm]
  rw [← hn] at hl hc1
  rw [← hm] at hl2 hc2
  have HKc := hid (And.intro hcm1 hcm2)
  have hd1 : (n : Int) + 5 ≤ (c1 : Int) := by omega
  have hd2 : (m : Int) + 5 ≤ (c2 : Int) := by omega
  have hw1 : IntKind.i64.wrap ((n : Int) + 5) = (n : Int) + 5 := by rw [IntKind.wrap_i64]; omega
  have hw2 : IntKind.i64.wrap ((m : Int) + 5) = (m : Int) + 5 := by rw [IntKind.wrap_i64]; omega
  clear h h2 h3 h4 hv5 hn hm hcm1 hcm2
  go_enter Tryz.func16, Tryz.ntmps16
  go_upto_region 1 with fail
  refine cutG (fun W => St w nm ar (.slice (some ⟨g1, 0, none⟩) n c1) (.slice ao n cap) W) H0.out ?_
  intro W0 hW0
  clear H0
  obtain ⟨p0, p1, p2, pf⟩ := vfacts hW0.b1
  obtain ⟨q0, q1, q2, qf⟩ := vfacts hW0.b2
  have H0 := hid hW0
  clear hW0
  go_upto_region 3 with (
    go_at_call 33
    refine (HSV.out _ H0.out.hb).mono ?_
    rintro e w1 ⟨rfl, hb1⟩
    have H1 := hid (H0.out.go hb1)
    clear hb1)
  clear p0 p1 p2 pf q0 q1 q2 qf H0
  obtain ⟨p0, p1, p2, pf⟩ := vfacts H1.out.b1
  obtain ⟨q0, q1, q2, qf⟩ := vfacts H1.out.b2
  have HR0' := HR0
  clear p0 p1 p2 pf q0 q1 q2 qf
  obtain ⟨p0, p1, p2, pf⟩ := vfacts H1.out.b1
  obtain ⟨q0, q1, q2, qf⟩ := vfacts H1.out.b2
  go_wp2_with fail
  clear p0 p1 p2 pf q0 q1 q2 qf hw1 hw2 hd1 hd2
  go_loopw [11] (fun ix wr => ∃ k : Nat, k ≤ n + 5 ∧ ix = .int .i64 k ∧ Hid (St w nm ar (.slice (some ⟨g1, 0, none⟩) n c1) (.slice ao n cap) wr)) (fun ix _ => n + 5 - (intOf ix).toNat)
  case atStart => exact ⟨0, Nat.zero_le _, by go_num, H1⟩
  case round =>
    clear H1
    obtain ⟨k, hk, rfl, HR⟩ := hrel
    by_cases hlt : k < n + 5
    · have i1 : (k : Int) < (n : Int) + 5 := by omega
      have i2 : k < 2000 := by omega
      obtain ⟨b1, o1, cp1, e, -, -, hcl⟩ := Rf.elem (f := Ins.cells) ins_cells (by omega) (by have h5 := HR0.out.2.2.1; rw [← xsT_len] at h5; exact h5) k (by rw [xsT_len, ← HL.out.1]; exact hlt)
      injection e with e _ e3
      injection e with e
      injection e with e1 e2 _
      subst e1 e2 e3
      obtain ⟨x, hx⟩ : ∃ x, x = (xsT xs 5)[k]'(by rw [xsT_len, ← HL.out.1]; exact hlt) := ⟨_, rfl⟩
      rw [← hx] at hcl
      by_cases hkn : k < n
      · have hxx : x = xs[k]'(by rw [← HL.out.1]; exact hkn) := by rw [hx]; exact List.getElem_append_left _
        obtain ⟨b2, o2, cp2, e, -, -, hcr⟩ := Rf.elem (f := Ins.cells) ins_cells (by omega) (by have h5 := HR0.out.1; exact h5) k (by rw [← HL.out.1]; exact hkn)
        injection e with e1 _ e3
        subst e1 e3
        obtain ⟨y, hy⟩ : ∃ y, y = xs[k]'(by rw [← HL.out.1]; exact hkn) := ⟨_, rfl⟩
        rw [← hy] at hcr hxx
        clear hx hy
        obtain ⟨xo, xa, xb, xc, xn, xk, xi, xt⟩ := x
        obtain ⟨yo, ya, yb, yc, yn, yk, yi, yt⟩ := y
        have hne := neqI xo xa xb xc xn xk xi xt yo ya yb yc yn yk yi yt hxx
        have HX := hid (show ∀ W, Below w.heap.size w W → (W.cell? ⟨g1, k * 8, none⟩ = some (.int .i64 xo) ∧ W.cell? ⟨g1, k * 8 + 1, none⟩ = some (.int .i64 xa) ∧ W.cell? ⟨g1, k * 8 + 2, none⟩ = some (.int .i64 xb) ∧ W.cell? ⟨g1, k * 8 + 3, none⟩ = some (.int .i64 xc) ∧ W.cell? ⟨g1, k * 8 + 4, none⟩ = some (.int .i64 xn) ∧ W.cell? ⟨g1, k * 8 + 5, none⟩ = some (.int .i64 xk) ∧ W.cell? ⟨g1, k * 8 + 5 + 1, none⟩ = some (.int .i64 xi) ∧ W.cell? ⟨g1, k * 8 + 5 + 2, none⟩ = some (.string xt)) from fun W hb => by
          have go : ∀ {j : Nat} {u : Value}, (Ins.cells ⟨xo, xa, xb, xc, xn, xk, xi, xt⟩)[j]? = some u → W.cell? ⟨g1, k * 8 + j, none⟩ = some u := fun {j} {u} hu => by
            have h5 := hcl j u hu
            rw [Nat.zero_add] at h5
            exact (hb.cell (World.block_lt_of_cell? _ _ h5)).trans h5
          exact ⟨go (j := 0) rfl, go (j := 1) rfl, go (j := 2) rfl, go (j := 3) rfl, go (j := 4) rfl, go (j := 5) rfl, go (j := 6) rfl, go (j := 7) rfl⟩)
        have HY := hid (show ∀ W, Below w.heap.size w W → (W.cell? ⟨b2, o2 + k * 8, none⟩ = some (.int .i64 yo) ∧ W.cell? ⟨b2, o2 + k * 8 + 1, none⟩ = some (.int .i64 ya) ∧ W.cell? ⟨b2, o2 + k * 8 + 2, none⟩ = some (.int .i64 yb) ∧ W.cell? ⟨b2, o2 + k * 8 + 3, none⟩ = some (.int .i64 yc) ∧ W.cell? ⟨b2, o2 + k * 8 + 4, none⟩ = some (.int .i64 yn) ∧ W.cell? ⟨b2, o2 + k * 8 + 5, none⟩ = some (.int .i64 yk) ∧ W.cell? ⟨b2, o2 + k * 8 + 5 + 1, none⟩ = some (.int .i64 yi) ∧ W.cell? ⟨b2, o2 + k * 8 + 5 + 2, none⟩ = some (.string yt)) from fun W hb => by
          have go : ∀ {j : Nat} {u : Value}, (Ins.cells ⟨yo, ya, yb, yc, yn, yk, yi, yt⟩)[j]? = some u → W.cell? ⟨b2, o2 + k * 8 + j, none⟩ = some u := fun {j} {u} hu => (hb.cell (World.block_lt_of_cell? _ _ (hcr j u hu))).trans (hcr j u hu)
          exact ⟨go (j := 0) rfl, go (j := 1) rfl, go (j := 2) rfl, go (j := 3) rfl, go (j := 4) rfl, go (j := 5) rfl, go (j := 6) rfl, go (j := 7) rfl⟩)
        have i3 : (k : Int) < (n : Int) := by omega
        have i4 : decide ((n : Int) ≤ (k : Int)) = false := by rw [decide_eq_false_iff_not]; omega
        have i5 : decide (n ≤ k) = false := by rw [decide_eq_false_iff_not]; omega
        have HKK := hid (And.intro hk (And.intro hlt hkn))
        clear hcl hcr hxx hkn
        obtain ⟨p0, p1, p2, -⟩ := vfacts HR.out.b2
        obtain ⟨x0, x1, x2, x3, x4, x5, x6, x7⟩ := HX.out wr HR.out.hb
        obtain ⟨y0, y1, y2, y3, y4, y5, y6, y7⟩ := HY.out wr HR.out.hb
        go_upto_region 8 with fail
        go_region
        all_goals
          go_wp2_with fail
          go_roundw
          case rel => exact ⟨k + 1, by have := HKK.out.2.1; omega, by go_num, hid (HR.out.go ((Below.refl _ _).drew))⟩
          case measure => have := HKK.out.2.1; simp [intOf]; omega
      · obtain ⟨j, hj⟩ : ∃ j, k = n + j := ⟨k - n, by omega⟩
        have hj5 : j < 5 := by omega
        have hxx : x = mkI j := by
          rw [hx]
          subst hj
          rw [List.getElem_append_right (by rw [← HL.out.1]; omega)]
          simp [HL.out.1]
        clear hx
        obtain ⟨xo, xa, xb, xc, xn, xk, xi, xt⟩ := x
        have hne := neqI xo xa xb xc xn xk xi xt (40 + (j : Int)) 0 0 0 0 0 0 emp hxx
        have HX := hid (show ∀ W, Below w.heap.size w W → (W.cell? ⟨g1, k * 8, none⟩ = some (.int .i64 xo) ∧ W.cell? ⟨g1, k * 8 + 1, none⟩ = some (.int .i64 xa) ∧ W.cell? ⟨g1, k * 8 + 2, none⟩ = some (.int .i64 xb) ∧ W.cell? ⟨g1, k * 8 + 3, none⟩ = some (.int .i64 xc) ∧ W.cell? ⟨g1, k * 8 + 4, none⟩ = some (.int .i64 xn) ∧ W.cell? ⟨g1, k * 8 + 5, none⟩ = some (.int .i64 xk) ∧ W.cell? ⟨g1, k * 8 + 5 + 1, none⟩ = some (.int .i64 xi) ∧ W.cell? ⟨g1, k * 8 + 5 + 2, none⟩ = some (.string xt)) from fun W hb => by
          have go : ∀ {j : Nat} {u : Value}, (Ins.cells ⟨xo, xa, xb, xc, xn, xk, xi, xt⟩)[j]? = some u → W.cell? ⟨g1, k * 8 + j, none⟩ = some u := fun {j} {u} hu => by
            have h5 := hcl j u hu
            rw [Nat.zero_add] at h5
            exact (hb.cell (World.block_lt_of_cell? _ _ h5)).trans h5
          exact ⟨go (j := 0) rfl, go (j := 1) rfl, go (j := 2) rfl, go (j := 3) rfl, go (j := 4) rfl, go (j := 5) rfl, go (j := 6) rfl, go (j := 7) rfl⟩)
        have HC := hid (show ∀ W, St w nm ar (.slice (some ⟨g1, 0, none⟩) n c1) (.slice ao n cap) W → (W.cell? ⟨w.heap.size + 1, 2, none⟩ = some (.slice ao n cap) ∧ W.cell? ⟨g1, k * 8, none⟩ = some (.int .i64 xo) ∧ W.cell? ⟨g1, k * 8 + 1, none⟩ = some (.int .i64 xa) ∧ W.cell? ⟨g1, k * 8 + 2, none⟩ = some (.int .i64 xb) ∧ W.cell? ⟨g1, k * 8 + 3, none⟩ = some (.int .i64 xc) ∧ W.cell? ⟨g1, k * 8 + 4, none⟩ = some (.int .i64 xn) ∧ W.cell? ⟨g1, k * 8 + 5, none⟩ = some (.int .i64 xk) ∧ W.cell? ⟨g1, k * 8 + 5 + 1, none⟩ = some (.int .i64 xi) ∧ W.cell? ⟨g1, k * 8 + 5 + 2, none⟩ = some (.string xt)) from fun W hb => ⟨by rw [cell_of_row _ _ _ _ _ _ hb.b2]; rfl, HX.out W hb.hb⟩)
        have HM := hid (fun W => markI_any j W (by omega))
        unfold Ins.val mkI at HM
        dsimp only at HM
        have i3 : ¬ (k : Int) < (n : Int) := by omega
        have i3d : decide ((k : Int) < (n : Int)) = false := by rw [decide_eq_false_iff_not]; exact i3
        have i3n : decide (k < n) = false := by rw [decide_eq_false_iff_not]; exact hkn
        have i4 : decide ((n : Int) ≤ (k : Int)) = true := by rw [decide_eq_true_eq]; omega
        have i5 : decide (n ≤ k) = true := by rw [decide_eq_true_eq]; omega
        have hwj : IntKind.i64.wrap ((k : Int) - (n : Int)) = (j : Int) := by rw [IntKind.wrap_i64]; omega
        have HKK := hid (And.intro hk (And.intro hlt (And.intro hkn (And.intro hj i3))))
        clear hcl hxx hkn hj i3
        go_upto_region 8 with fail
        refine wp_region_held_drew (S := (fun wx => wx.cell? ⟨w.heap.size + 1, 2, none⟩ = some (.slice ao n cap) ∧ wx.cell? ⟨g1, k * 8, none⟩ = some (.int .i64 xo) ∧ wx.cell? ⟨g1, k * 8 + 1, none⟩ = some (.int .i64 xa) ∧ wx.cell? ⟨g1, k * 8 + 2, none⟩ = some (.int .i64 xb) ∧ wx.cell? ⟨g1, k * 8 + 3, none⟩ = some (.int .i64 xc) ∧ wx.cell? ⟨g1, k * 8 + 4, none⟩ = some (.int .i64 xn) ∧ wx.cell? ⟨g1, k * 8 + 5, none⟩ = some (.int .i64 xk) ∧ wx.cell? ⟨g1, k * 8 + 5 + 1, none⟩ = some (.int .i64 xi) ∧ wx.cell? ⟨g1, k * 8 + 5 + 2, none⟩ = some (.string xt))) (by kernel_rfl) (HC.out _ (HR.out.go ((Below.refl _ _).drew))) (fun hH => ?_)
        refine tk 0 ⟨some 58, .move (.tmp 11), 3, "law.go:127", #[], none⟩ hH ?_; simp only [pua, puz, pus]
        refine tk 1 ⟨some 59, .fieldAddr 34 (.tmp 6) 2, 0, "law.go:127", #[], none⟩ hH ?_; simp only [pua, puz, pus]
        refine tk 2 ⟨some 60, .load 32 (.tmp 59), 32, "law.go:127", #[⟨1, .data⟩], none⟩ hH ?_; simp only [pua, puz, pus]
        refine tk 3 ⟨some 61, .call { callee := .builtin .len, args := #[.tmp 60], argTypes := #[32] }, 3, "law.go:127", #[⟨2, .data⟩], none⟩ hH ?_; simp only [pua, puz, pus]
        refine tk 4 ⟨some 62, .binOp .lss 3 (.tmp 58) (.tmp 61) 3, 4, "law.go:127", #[⟨0, .data⟩, ⟨3, .data⟩], none⟩ hH ?_; simp only [pua, puz, pus]
        refine tk 5 ⟨some 63, .move (.tmp 62), 4, "law.go:127", #[⟨4, .data⟩], none⟩ hH ?_; simp only [pua, puz, pus]
        refine tks 6 ⟨some 64, .move (.tmp 9), 32, "law.go:127", #[⟨5, .guard⟩], some (5, true)⟩ hH ?_; simp only [pua, puz, pus]
        refine tks 7 ⟨some 65, .move (.tmp 11), 3, "law.go:127", #[⟨5, .guard⟩], some (5, true)⟩ hH ?_; simp only [pua, puz, pus]
        refine tks 8 ⟨some 66, .indexAddr 32 (.tmp 64) (.tmp 65), 0, "law.go:127", #[⟨6, .data⟩, ⟨7, .data⟩, ⟨5, .guard⟩], some (5, true)⟩ hH ?_; simp only [pua, puz, pus]
        refine tks 9 ⟨some 67, .load 31 (.tmp 66), 31, "law.go:127", #[⟨8, .data⟩, ⟨5, .guard⟩], some (5, true)⟩ hH ?_; simp only [pua, puz, pus]
        refine tks 10 ⟨some 68, .fieldAddr 34 (.tmp 6) 2, 0, "law.go:127", #[⟨5, .guard⟩], some (5, true)⟩ hH ?_; simp only [pua, puz, pus]
        refine tks 11 ⟨some 69, .load 32 (.tmp 68), 32, "law.go:127", #[⟨10, .data⟩, ⟨5, .guard⟩], some (5, true)⟩ hH ?_; simp only [pua, puz, pus]
        refine tks 12 ⟨some 70, .move (.tmp 11), 3, "law.go:127", #[⟨5, .guard⟩], some (5, true)⟩ hH ?_; simp only [pua, puz, pus]
        refine tks 13 ⟨some 71, .indexAddr 32 (.tmp 69) (.tmp 70), 0, "law.go:127", #[⟨11, .data⟩, ⟨12, .data⟩, ⟨5, .guard⟩], some (5, true)⟩ hH ?_; simp only [pua, puz, pus]
        refine tks 14 ⟨some 72, .load 31 (.tmp 71), 31, "law.go:127", #[⟨13, .data⟩, ⟨5, .guard⟩], some (5, true)⟩ hH ?_; simp only [pua, puz, pus]
        refine tks 15 ⟨some 73, .binOp .neq 31 (.tmp 67) (.tmp 72) 31, 4, "law.go:127", #[⟨9, .data⟩, ⟨14, .data⟩, ⟨5, .guard⟩], some (5, true)⟩ hH ?_; simp only [pua, puz, pus]
        refine tk 16 ⟨some 74, .pick (.tmp 63) (.tmp 73) (.const (.bool false)), 4, "law.go:127", #[⟨5, .data⟩, ⟨15, .data⟩], none⟩ hH ?_; simp only [pua, puz, pus]
        refine tk 17 ⟨some 75, .move (.tmp 74), 4, "law.go:127", #[⟨16, .data⟩, ⟨5, .chain⟩], none⟩ hH ?_; simp only [pua, puz, pus]
        refine tk 18 ⟨some 76, .move (.tmp 11), 3, "law.go:127", #[⟨17, .guard⟩], some (17, false)⟩ hH ?_; simp only [pua, puz, pus]
        refine tk 19 ⟨some 77, .fieldAddr 34 (.tmp 6) 2, 0, "law.go:127", #[⟨17, .guard⟩], some (17, false)⟩ hH ?_; simp only [pua, puz, pus]
        refine tk 20 ⟨some 78, .load 32 (.tmp 77), 32, "law.go:127", #[⟨19, .data⟩, ⟨17, .guard⟩], some (17, false)⟩ hH ?_; simp only [pua, puz, pus]
        refine tk 21 ⟨some 79, .call { callee := .builtin .len, args := #[.tmp 78], argTypes := #[32] }, 3, "law.go:127", #[⟨20, .data⟩, ⟨17, .guard⟩], some (17, false)⟩ hH ?_; simp only [pua, puz, pus]
        refine tk 22 ⟨some 80, .binOp .geq 3 (.tmp 76) (.tmp 79) 3, 4, "law.go:127", #[⟨18, .data⟩, ⟨21, .data⟩, ⟨17, .guard⟩], some (17, false)⟩ hH ?_; simp only [pua, puz, pus]
        refine tk 23 ⟨some 81, .move (.tmp 80), 4, "law.go:127", #[⟨22, .data⟩, ⟨17, .chain⟩, ⟨17, .guard⟩], some (17, false)⟩ hH ?_; simp only [pua, puz, pus]
        refine tk 24 ⟨some 82, .move (.tmp 9), 32, "law.go:127", #[⟨23, .guard⟩], some (23, true)⟩ hH ?_; simp only [pua, puz, pus]
        refine tk 25 ⟨some 83, .move (.tmp 11), 3, "law.go:127", #[⟨23, .guard⟩], some (23, true)⟩ hH ?_; simp only [pua, puz, pus]
        refine tk 26 ⟨some 84, .indexAddr 32 (.tmp 82) (.tmp 83), 0, "law.go:127", #[⟨24, .data⟩, ⟨25, .data⟩, ⟨23, .guard⟩], some (23, true)⟩ hH ?_; simp only [pua, puz, pus]
        refine tk 27 ⟨some 85, .load 31 (.tmp 84), 31, "law.go:127", #[⟨26, .data⟩, ⟨23, .guard⟩], some (23, true)⟩ hH ?_; simp only [pua, puz, pus]
        refine tk 28 ⟨some 86, .move (.tmp 11), 3, "law.go:127", #[⟨23, .guard⟩], some (23, true)⟩ hH ?_; simp only [pua, puz, pus]
        refine tk 29 ⟨some 87, .fieldAddr 34 (.tmp 6) 2, 0, "law.go:127", #[⟨23, .guard⟩], some (23, true)⟩ hH ?_; simp only [pua, puz, pus]
        refine tk 30 ⟨some 88, .load 32 (.tmp 87), 32, "law.go:127", #[⟨29, .data⟩, ⟨23, .guard⟩], some (23, true)⟩ hH ?_; simp only [pua, puz, pus]
        refine tk 31 ⟨some 89, .call { callee := .builtin .len, args := #[.tmp 88], argTypes := #[32] }, 3, "law.go:127", #[⟨30, .data⟩, ⟨23, .guard⟩], some (23, true)⟩ hH ?_; simp only [pua, puz, pus]
        refine tk 32 ⟨some 90, .binOp .sub 3 (.tmp 86) (.tmp 89) 3, 3, "law.go:127", #[⟨28, .data⟩, ⟨31, .data⟩, ⟨23, .guard⟩], some (23, true)⟩ hH ?_; simp only [pua, puz, pus]
        refine rd 33 ⟨some 91, .call { callee := .value (.func 25), args := #[.tmp 90], argTypes := #[3] }, 31, "law.go:127", #[⟨32, .data⟩, ⟨23, .chain⟩, ⟨23, .guard⟩], some (23, true)⟩ (fun K hK => ?_); go_simp
        go_at_call 25
        refine (HM.out _).mono ?_
        rintro e w2 ⟨rfl, hb2⟩
        have H2 := hid (HR.out.go (below_on ((Below.refl _ _).drew) hb2))
        clear hb2
        clear hH; refine hK.out _ _ (HC.out _ H2.out) (fun hH => ?_)
        clear hK K; (try simp only [pua, puz, pus])
        refine tk 34 ⟨some 92, .binOp .neq 31 (.tmp 85) (.tmp 91) 31, 4, "law.go:127", #[⟨27, .data⟩, ⟨33, .data⟩, ⟨23, .guard⟩], some (23, true)⟩ hH ?_; simp only [pua, puz, pus]
        refine tk 35 ⟨some 93, .pick (.tmp 81) (.tmp 92) (.const (.bool false)), 4, "law.go:127", #[⟨23, .data⟩, ⟨34, .data⟩, ⟨17, .guard⟩], some (17, false)⟩ hH ?_; simp only [pua, puz, pus]
        refine tk 36 ⟨some 94, .pick (.tmp 75) (.const (.bool true)) (.tmp 93), 4, "law.go:127", #[⟨17, .data⟩, ⟨35, .data⟩], none⟩ hH ?_; simp only [pua, puz, pus]
        refine wpAnyH_done (by kernel_rfl) ?_ _
        clear hH
        go_wp2_with fail
        go_roundw
        case rel => exact ⟨k + 1, by have := HKK.out.2.1; omega, by go_num, H2⟩
        case measure => have := HKK.out.2.1; simp [intOf]; omega
    · obtain rfl : k = n + 5 := by omega
      have i1 : ¬ ((n + 5 : Nat) : Int) < (n : Int) + 5 := by omega
      clear hk hlt
      go_wp2_with fail
      go_loopw [12] (fun ix wr => ∃ k : Nat, m ≤ k ∧ k ≤ m + 5 ∧ ix = .int .i64 k ∧ Hid (St w nm ar (.slice (some ⟨g1, 0, none⟩) n c1) (.slice ao n cap) wr)) (fun ix _ => m + 5 - (intOf ix).toNat)
      case atStart => exact ⟨m, Nat.le_refl _, by omega, rfl, HR⟩
      case round =>
        clear HR
        obtain ⟨k, hmk, hk, rfl, HR⟩ := hrel
        by_cases hlt : k < m + 5
        · have i1 : (k : Int) < (m : Int) + 5 := by omega
          have i2 : k < 2000 := by omega
          obtain ⟨j, hj⟩ : ∃ j, k = m + j := ⟨k - m, by omega⟩
          have hj5 : j < 5 := by omega
          obtain ⟨b1, o1, cp1, e, -, -, hcl⟩ := Rf.elem (f := vcs) vcs_len (by omega) (by have h5 := HR0.out.2.2.2.1; rw [← vsT_len] at h5; exact h5) k (by rw [vsT_len, ← HL.out.2]; exact hlt)
          injection e with e _ e3
          injection e with e
          injection e with e1 e2 _
          subst e1 e2 e3
          obtain ⟨x, hx⟩ : ∃ x, x = (vsT vs 5)[k]'(by rw [vsT_len, ← HL.out.2]; exact hlt) := ⟨_, rfl⟩
          rw [← hx] at hcl
          have hxx : x = mkV j := by
            rw [hx]
            subst hj
            rw [List.getElem_append_right (by rw [← HL.out.2]; omega)]
            simp [HL.out.2]
          clear hx
          obtain ⟨xk, xi, xt⟩ := x
          have hne := neq28 xk xi xt (50 + (j : Int)) 0 emp (congrArg Vd.k hxx) (congrArg Vd.i hxx) (congrArg Vd.t hxx)
          have HX := hid (show ∀ W, Below w.heap.size w W → (W.cell? ⟨g2, k * 3, none⟩ = some (.int .i64 xk) ∧ W.cell? ⟨g2, k * 3 + 1, none⟩ = some (.int .i64 xi) ∧ W.cell? ⟨g2, k * 3 + 2, none⟩ = some (.string xt)) from fun W hb => by
            have go : ∀ {j : Nat} {u : Value}, (vcs ⟨xk, xi, xt⟩)[j]? = some u → W.cell? ⟨g2, k * 3 + j, none⟩ = some u := fun {j} {u} hu => by
              have h5 := hcl j u hu
              rw [Nat.zero_add] at h5
              exact (hb.cell (World.block_lt_of_cell? _ _ h5)).trans h5
            exact ⟨go (j := 0) rfl, go (j := 1) rfl, go (j := 2) rfl⟩)
          have HM := hid (fun W => markV_any j W (by omega))
          unfold Vd.val mkV at HM
          dsimp only at HM
          have hwj : IntKind.i64.wrap ((k : Int) - (m : Int)) = (j : Int) := by rw [IntKind.wrap_i64]; omega
          have HKK := hid (And.intro hk (And.intro hlt (And.intro hmk hj)))
          clear hcl hxx hj hmk
          go_upto_region 13 with fail
          go_region_held3 (fun wx => wx.cell? ⟨g2, k * 3, none⟩ = some (.int .i64 xk) ∧ wx.cell? ⟨g2, k * 3 + 1, none⟩ = some (.int .i64 xi) ∧ wx.cell? ⟨g2, k * 3 + 2, none⟩ = some (.string xt))
            (first | exact HX.out _ H2.out.hb | exact HX.out _ (HR.out.go ((Below.refl _ _).drew)).hb)
            (first
            | (go_at_call 26
               refine (HM.out _).mono ?_
               rintro e w2 ⟨rfl, hb2⟩
               have H2 := hid (HR.out.go (below_on ((Below.refl _ _).drew) hb2))
               clear hb2))
          go_wp2_with fail
          go_roundw
          case rel => exact ⟨k + 1, by have := HKK.out.2.2.1; omega, by have := HKK.out.2.1; omega, by go_num, H2⟩
          case measure => have := HKK.out.2.1; simp [intOf]; omega
        · obtain rfl : k = m + 5 := by omega
          have i1 : ¬ ((m + 5 : Nat) : Int) < (m : Int) + 5 := by omega
          clear hk hlt
          go_wp2_with fail
          go_ret
          exact ⟨rfl, HR.out.hb⟩
end Go.Proofs.YthcoigbkdbkojabGreat
namespace Go.Proofs.YthcoigbkdbkojabGreat.V
open Go.RowKit Go.MapKept
theorem PC.of0 {w : World} {p : Nat} {g : ByteArray → Option Pd} {B : Nat} (h : PV w p g false 0 B) : PC w p g 0 B := by
  obtain ⟨t, f, c, hz, hc, hn, hr⟩ := h.ex
  have hc0 : c = ((0 : Nat) : Int) := by omega
  subst hc0
  exact ⟨⟨t, f, hz, by omega, hr⟩⟩
end Go.Proofs.YthcoigbkdbkojabGreat.V
namespace Go.Proofs.YthcoigbkdbkojabGreat
open Go.RowKit
open V (hp_new hp_lt hp_below hp_alloc)
set_option maxHeartbeats 3200000 in
theorem store_c (v : Value) (pa : Option Addr) (pn pc : Nat) (l : List (ByteArray × Vd)) (w : World) (h : Rf w 4 v l.length (l.flatMap ecs)) (hl : l.length ≤ 1000) (hk : ∀ x ∈ l, x.1.size ≤ 1000000) (ha : Asc l) :
    Calls Tryz.prog 8 #[.agg #[v, .slice pa pn pc]] w fun e w' => ∃ p, e = .returned (.pointer (some ⟨p, 0, none⟩)) ∧ V.PC w' p (stG l) l.length (w.heap.size + 1) ∧ Below w.heap.size w w' := by
  obtain ⟨ao, cap, rfl, -, -⟩ := h.shape
  have hb0 : Below w.heap.size w (w.alloc (.cells #[.slice ao l.length cap, .slice pa pn pc] 26)) := below1 w _
  have HN := hid (V.pnew (w.alloc (.cells #[.slice ao l.length cap, .slice pa pn pc] 26)))
  have H := hid (And.intro h (And.intro hb0 hk))
  have HAS := hid ha
  clear h hb0 hk ha
  go_enter Tryz.func8, Tryz.ntmps8
  go_wp2_with (
    go_at_call 23
    refine HN.out.mono ?_
    rintro e w1 ⟨rfl, hq1⟩
    have H1 := hid (And.intro (V.PC.of0 hq1.out.1) hq1.out.2)
    clear hq1)
  have es : (w.alloc (.cells #[.slice ao l.length cap, .slice pa pn pc] 26)).heap.size = w.heap.size + 1 := by simp
  rw [es] at H1
  have HC := hid (show ∀ W, Below (w.heap.size + 1) w1 W → W.cell? ⟨w.heap.size, 0, none⟩ = some (.slice ao l.length cap) ∧ Below w.heap.size w W from fun W hb => by
    have hw1 : w1.heap[w.heap.size]? = some (.cells #[.slice ao l.length cap, .slice pa pn pc] 26) := blk_of H1.out.2 (hp_new w _) (Nat.lt_succ_self _)
    have hW := blk_of hb hw1 (Nat.lt_succ_self _)
    exact ⟨by rw [cell_of_row _ _ _ _ _ _ hW]; rfl, (H.out.2.1.trans (H1.out.2.mono (Nat.le_succ _))).trans (hb.mono (Nat.le_succ _))⟩)
  go_loopw [4] (fun ix wr => ∃ k : Nat, k ≤ l.length ∧ ix = .int .i64 k ∧ Hid (V.PC wr (w.heap.size + 1) (stG (l.take k)) k (w.heap.size + 1) ∧ Below (w.heap.size + 1) w1 wr)) (fun ix _ => l.length - (intOf ix).toNat)
  case atStart => exact ⟨0, Nat.zero_le _, by go_num, hid ⟨H1.out.1, Below.refl _ _⟩⟩
  case round =>
    obtain ⟨k, hk, rfl, HR⟩ := hrel
    obtain ⟨b0, hbw⟩ := HC.out wr HR.out.2
    by_cases hlt : k < l.length
    · have i1 : (k : Int) < (l.length : Int) := by omega
      obtain ⟨bb, off, cap', e, -, -, hcell⟩ := Rf.elem (f := ecs) (fun _ => rfl) (by omega) H.out.1 k hlt
      injection e with e1 e2 e3
      subst e1 e3
      clear e2
      have hsz := H.out.2.2 l[k] (List.getElem_mem hlt)
      have hsu := stG_succ l k hlt
      have hfr := stG_fresh HAS.out k hlt
      obtain ⟨x, hx⟩ : ∃ x, x = l[k] := ⟨_, rfl⟩
      rw [← hx] at hcell hsz hsu hfr
      obtain ⟨key, vd⟩ := x
      have HS := hid (show ∀ W, Below (w.heap.size + 1) w1 W → W.cell? ⟨w.heap.size, 0, none⟩ = some (.slice (some ⟨bb, off, none⟩) l.length cap) ∧ W.cell? ⟨bb, off + k * 4, none⟩ = some (.string key) ∧ W.cell? ⟨bb, off + k * 4 + 1, none⟩ = some (.int .i64 vd.k) ∧ W.cell? ⟨bb, off + k * 4 + 1 + 1, none⟩ = some (.int .i64 vd.i) ∧ W.cell? ⟨bb, off + k * 4 + 1 + 2, none⟩ = some (.string vd.t) from fun W hb => by
        obtain ⟨q0, q1⟩ := HC.out W hb
        have cc : ∀ c u, (ecs (key, vd))[c]? = some u → W.cell? ⟨bb, off + k * 4 + c, none⟩ = some u := fun c u hu => (q1.cell (World.block_lt_of_cell? _ _ (hcell c u hu))).trans (hcell c u hu)
        exact ⟨q0, cc 0 _ rfl, cc 1 _ rfl, cc 2 _ rfl, cc 3 _ rfl⟩)
      have HP := hid (V.cput (w.heap.size + 1) key (pdOf vd) _ k (w.heap.size + 1) wr.drew (HR.out.1.below ((Below.refl _ wr).drew)) (by have := HR.out.2.size; have := H1.out.2.size; show _ ≤ wr.heap.size; omega) (by omega) (by dsimp only at hsz; omega) hfr)
      have HSU := hid hsu
      clear hcell hsz hsu hx hfr
      go_upto_region 5 with fail
      go_region_held3 (fun wx => wx.cell? ⟨w.heap.size, 0, none⟩ = some (.slice (some ⟨bb, off, none⟩) l.length cap) ∧ wx.cell? ⟨bb, off + k * 4, none⟩ = some (.string key) ∧ wx.cell? ⟨bb, off + k * 4 + 1, none⟩ = some (.int .i64 vd.k) ∧ wx.cell? ⟨bb, off + k * 4 + 1 + 1, none⟩ = some (.int .i64 vd.i) ∧ wx.cell? ⟨bb, off + k * 4 + 1 + 2, none⟩ = some (.string vd.t))
        (first | exact HS.out _ HR.out.2.drew | exact HS.out _ H2.out.2)
        (first
        | (go_at_call 24
           refine HP.out.mono ?_
           rintro e w2 ⟨rfl, hp2, hk2⟩
           have H2 := hid (And.intro hp2 (show Below (w.heap.size + 1) w1 w2 from HR.out.2.drew.trans ((kept_v hk2).below (by have := HR.out.2.size; have := H1.out.2.size; show _ ≤ wr.heap.size; omega) (fun k hk e => by omega))))
           clear hp2 hk2))
      go_wp2_with fail
      go_roundw
      case rel => exact ⟨k + 1, by omega, by go_num, hid ⟨by rw [HSU.out]; exact H2.out.1, H2.out.2⟩⟩
      case measure => simp [intOf]; omega
    · obtain rfl : l.length = k := by omega
      have i1 : ¬ (l.length : Int) < (l.length : Int) := by omega
      go_wp2_with fail
      go_ret
      have h9 := HR.out.1
      rw [List.take_length] at h9
      exact ⟨_, rfl, h9, hbw⟩
theorem store_vc (v : Value) (T : KV) (w : World) (h : Rf w 4 v T.length (T.flatMap ecs)) (hl : T.length ≤ 1000) (hT : SOk T) :
    Calls Tryz.prog 8 #[.agg #[v, .slice none 0 0]] w fun e w' => ∃ p, e = .returned (.pointer (some ⟨p, 0, none⟩)) ∧ VC w' p T ∧ Below w.heap.size w w' := by
  refine (store_c v none 0 0 T w h hl (fun x hx => ?_) hT.asc).mono ?_
  · have := isKey_256 (hT.el x hx).1
    omega
  · rintro e w' ⟨p, rfl, hp, hb⟩
    exact ⟨p, rfl, vc_of hp hT.asc rfl, hb⟩
end Go.Proofs.YthcoigbkdbkojabGreat
