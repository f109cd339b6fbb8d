import Derived.Test.YtlmompdfombgeaaGreatK33
import Derived.Test.YtlmompdfombgeaaGreatK35
import Derived.Deep.RegionHeldLaw
namespace Go.Proofs.YtlmompdfombgeaaGreat
open Go.RowKit Go.MapKept

theorem fl_b0 {w0 W : World} {v : Value} {fs : List (Int × Int)} (h : Fl w0 v fs) (hb : Below w0.heap.size w0 W) : Fl W v fs := Rf.below h hb

set_option maxRecDepth 100000 in
set_option maxHeartbeats 6400000 in
theorem st_Plan {w0 w : World} {d r : Nat} {t : Wt} {R : Rt} {D : Dq} {n : Nat} (x : Sp) (p : SPre w0 w d r t R D n x) (hk : x.kind = 9) :
    Calls Tryz.prog 14 #[.pointer (some ⟨d, 0, none⟩), .pointer (some ⟨r, 0, none⟩), .agg #[.int .i64 x.kind, .string x.name, .string x.to, x.dv, .int .i64 x.n, x.sv, x.rv, .int .i64 x.pn, x.fv]] w (SPost w d r t R D n) := by
  obtain ⟨hx, hw0, hlo, hsm, hpr, hwd, hnn, htk, hf1, hf2⟩ := p
  obtain ⟨kind, name, tto, dv, data, nn, sv, gs, rv, gr, pn, fv, pk⟩ := x
  obtain ⟨-, -, hpn, hn1, hn2, hdt, hoct, hfs, -, hfr, -, hpk⟩ := hx
  obtain ⟨m1, m2, m3, m4, m5, m6, m7⟩ := hsm
  obtain ⟨a1, q1, e1, d1, d2⟩ := hdt.shape
  obtain ⟨a2, q2, e2, d3, d4⟩ := hfs.shape
  obtain ⟨a3, q3, e3, d5, d6⟩ := hfr.shape
  obtain ⟨a4, q4, e4, d7, d8⟩ := hpk.1.shape
  dsimp only at e1 e2 e3 e4 hn1 hn2 hk d1 d2 d3 d4 d5 d6 d7 d8 hdt hfs hfr hpk m1 m2 m3 m4 m5 m6 m7 hpn
  subst e1 e2 e3 e4
  dsimp only
  obtain rfl : kind = 9 := hk
  have hdt' : Rf w0 1 (.slice a1 data.length q1) data.length (B8 data) := by
    rw [← flat_u8]
    exact hdt
  have hsl0 := hdt'.sl
  have hw0z := hw0.size
  have hPl := hpr.lt
  have HX := hid (And.intro hpr (And.intro hw0 (And.intro hsl0 (And.intro hlo (And.intro hwd (And.intro htk (And.intro hf1 hf2)))))))
  have HPL := hid hPl
  have HFS := hid (And.intro hfs hfr)
  clear hpr hw0 hsl0 hfs hfr hpk hdt hdt' hoct m7 hlo hwd htk hPl
  have hbx : Below w.heap.size w (w.alloc (.cells #[.int .i64 9, .string name, .string tto, .slice a1 data.length q1, .int .i64 nn, .slice a2 gs.length q2, .slice a3 gr.length q3, .int .i64 pn, .slice a4 pk.length q4] 43)) := (Below.refl _ _).alloc (Nat.le_refl _) _
  have HBX := hid hbx
  clear hbx
  go_enter Tryz.func14, Tryz.ntmps14
  go_wp2_with (
    go_at_call 51
    refine (roomy_any (.slice a1 data.length q1) data _ ((HX.out.2.2.1.1.below HX.out.2.1).below HBX.out) (by omega)).mono ?_
    rintro e w1 ⟨rfl, ho1, hb1⟩
    have es := (show (w.alloc (.cells #[.int .i64 9, .string name, .string tto, .slice a1 data.length q1, .int .i64 nn, .slice a2 gs.length q2, .slice a3 gr.length q3, .int .i64 pn, .slice a4 pk.length q4] 43)).heap.size = w.heap.size + 1 from by simp)
    rw [es] at ho1 hb1 ⊢
    have hbw1 : Below w.heap.size w w1 := HBX.out.trans (hb1.mono (by omega))
    have x0 : w1.cell? ⟨w.heap.size, 0, none⟩ = some (.int .i64 9) := (hb1.cell (by simp)).trans (by simp [go_sem])
    have x1 : w1.cell? ⟨w.heap.size, 1, none⟩ = some (.string name) := (hb1.cell (by simp)).trans (by simp [go_sem])
    have x2 : w1.cell? ⟨w.heap.size, 2, none⟩ = some (.string tto) := (hb1.cell (by simp)).trans (by simp [go_sem])
    have x3 : w1.cell? ⟨w.heap.size, 3, none⟩ = some (.slice a1 data.length q1) := (hb1.cell (by simp)).trans (by simp [go_sem])
    have x4 : w1.cell? ⟨w.heap.size, 4, none⟩ = some (.int .i64 nn) := (hb1.cell (by simp)).trans (by simp [go_sem])
    have x5 : w1.cell? ⟨w.heap.size, 5, none⟩ = some (.slice a2 gs.length q2) := (hb1.cell (by simp)).trans (by simp [go_sem])
    have x6 : w1.cell? ⟨w.heap.size, 6, none⟩ = some (.slice a3 gr.length q3) := (hb1.cell (by simp)).trans (by simp [go_sem])
    have hz1 : w.heap.size + 1 < w1.heap.size := hp_lt ho1
    have H1 := hid (And.intro ho1 (And.intro hbw1 (HX.out.1.below hbw1)))
    clear ho1 hb1 es hbw1)
  have hbd1 : Below w1.heap.size w1 w1.drew := ⟨rfl, rfl, rfl, Nat.le_refl _, fun _ _ => rfl⟩
  have HPD := hid H1.out.2.2
  have HCX := hid (show ∀ W, Kept (Pft d r t R D) w1 W → W.cell? ⟨w.heap.size, 1, none⟩ = some (.string name) ∧ W.cell? ⟨w.heap.size, 2, none⟩ = some (.string tto) ∧ W.cell? ⟨w.heap.size, 3, none⟩ = some (.slice a1 data.length q1) ∧ W.cell? ⟨w.heap.size, 4, none⟩ = some (.int .i64 nn) from fun W hk => by
    have hn : ¬ Pft d r t R D w.heap.size := fun e => by have := HPL.out _ e; omega
    exact ⟨hk.cell x1 hn, hk.cell x2 hn, hk.cell x3 hn, hk.cell x4 hn⟩)
  have HK1 := hid (Kept.refl (Pft d r t R D) w1)
  have HSD := hid (show ∀ W, Kept (Pft d r t R D) w1 W → Sn W (.slice a1 data.length q1) data ∧ Own W (w.heap.size + 1) (rm data) from fun W hk => by
    have hb0 : Below w0.heap.size w0 W := (HX.out.2.1.trans (H1.out.2.1.mono hw0z)).trans (hk.below (Nat.le_trans hw0z H1.out.2.1.size) (fun k hk e => by have := HX.out.2.2.2.1 k e; omega))
    exact ⟨HX.out.2.2.1.1.below hb0 |> fun h => ⟨h, HX.out.2.2.1.2⟩, hp_kept H1.out.1 hk (fun e => by have := HPL.out _ e; omega)⟩)
  clear hbd1
  have HF := hid (show ∀ W, Below w0.heap.size w0 W → Fl W (.slice a2 gs.length q2) gs ∧ Fl W (.slice a3 gr.length q3) gr from fun W hb => ⟨fl_b0 HFS.out.1 hb, fl_b0 HFS.out.2 hb⟩)
  have HB0 := hid (show ∀ W, Kept (Pft d r t R D) w1 W → Below w0.heap.size w0 W from fun W hk => (HX.out.2.1.trans (H1.out.2.1.mono hw0z)).trans (hk.below (Nat.le_trans hw0z H1.out.2.1.size) (fun k hk e => by have := HX.out.2.2.2.1 k e; omega)))
  have hdl : d < w.heap.size := HPL.out d (.inl (.inl rfl))
  have hrl : r < w.heap.size := HPL.out r (.inr (.inl rfl))
  have hdlo : w0.heap.size ≤ d := HX.out.2.2.2.1 d (.inl (.inl rfl))
  have hrlo : w0.heap.size ≤ r := HX.out.2.2.2.1 r (.inr (.inl rfl))
  have HFL := hid (And.intro (fl_low (g := d) HFS.out.1 hdlo) (And.intro (fl_low (g := d) HFS.out.2 hdlo) (And.intro (fl_low (g := r) HFS.out.1 hrlo) (fl_low (g := r) HFS.out.2 hrlo))))
  go_wp2_with (first
    | (go_at_call 61
       refine (planned_any (.slice a2 gs.length q2) (.slice a3 gr.length q3) gs gr w1 (HF.out _ (HB0.out _ HK1.out)).1 (HF.out _ (HB0.out _ HK1.out)).2 m4 m5).mono ?_
       rintro e w2 ⟨g, g', c1, c2, rfl, or1, or2, hgg, hb2⟩
       have hg1 : w1.heap.size ≤ g := (or1.lt g rfl).1
       have hg2 : w1.heap.size ≤ g' := (or2.lt g' rfl).1
       have hg3 : g < w2.heap.size := (or1.lt g rfl).2
       have hg4 : g' < w2.heap.size := (or2.lt g' rfl).2
       have hb22 := hb2.alloc hb2.size (.cells #[.slice (some ⟨g, 0, none⟩) gs.length c1, .slice (some ⟨g', 0, none⟩) gr.length c2] 38)
       have p2 := PG.still H1.out.2.2 hb22
       obtain ⟨t1', t2', t3', t4'⟩ := HCX.out _ p2.kp
       have t5 := p2.kp.cell x5 (fun e => absurd (HPL.out _ e) (Nat.lt_irrefl _))
       have t6 := p2.kp.cell x6 (fun e => absurd (HPL.out _ e) (Nat.lt_irrefl _))
       have H2 := hid (And.intro (or1.alloc (.cells #[.slice (some ⟨g, 0, none⟩) gs.length c1, .slice (some ⟨g', 0, none⟩) gr.length c2] 38)) (And.intro (or2.alloc (.cells #[.slice (some ⟨g, 0, none⟩) gs.length c1, .slice (some ⟨g', 0, none⟩) gr.length c2] 38)) (And.intro hgg p2)))
       clear or1 or2 hgg hb2 hb22 p2)
    | (go_at_call 19
       (
       refine (plan_dk H2.out.2.2.2.pr.a _ _ gs gr (fl_marked H2.out.1) (fl_marked H2.out.2.1) m4 m5 (fun _ => by simp only [Value.ownBlock, ne_eq, Option.some.injEq]; omega)).mono ?_
       rintro e w3 ⟨rfl, t2, g3, hk3⟩
       have p3 := H2.out.2.2.2.trans (H2.out.2.2.2.pr.prog g3)
       obtain ⟨u1', u2', u3', u4'⟩ := HCX.out _ p3.kp
       have u5 := p3.kp.cell x5 (fun e => absurd (HPL.out _ e) (Nat.lt_irrefl _))
       have u6 := p3.kp.cell x6 (fun e => absurd (HPL.out _ e) (Nat.lt_irrefl _))
       have v5 : w3.cell? ⟨w2.heap.size, 0, none⟩ = some (.slice (some ⟨g, 0, none⟩) gs.length c1) := hk3.cell (by simp [go_sem]) (by dsimp only; omega)
       have v6 : w3.cell? ⟨w2.heap.size, 1, none⟩ = some (.slice (some ⟨g', 0, none⟩) gr.length c2) := hk3.cell (by simp [go_sem]) (by dsimp only; omega)
       have H3 := hid (And.intro p3 (And.intro hk3 (H2.out.2.2.2.pr.prog g3)))
       clear g3 p3 hk3))
    | (go_at_call 62
       (
       refine (plan_r H3.out.1.pr.b (.slice a2 gs.length q2) (.slice a3 gr.length q3) gs gr (HF.out _ (HB0.out _ H3.out.1.kp)).1 (HF.out _ (HB0.out _ H3.out.1.kp)).2 m4 m5).mono ?_
       rintro e w4 ⟨rfl, R3, g4, hk4⟩
       have p4 := H3.out.1.trans (H3.out.1.pr.doc g4)
       obtain ⟨y1', y2', y3', y4'⟩ := HCX.out _ p4.kp
       have y5 := p4.kp.cell x5 (fun e => absurd (HPL.out _ e) (Nat.lt_irrefl _))
       have y6 := p4.kp.cell x6 (fun e => absurd (HPL.out _ e) (Nat.lt_irrefl _))
       have z5 := hk4.cell v5 (by dsimp only; omega)
       have z6 := hk4.cell v6 (by dsimp only; omega)
       have H4 := hid (And.intro p4 hk4)
       have HP4 := hid (H3.out.2.2.trans (H3.out.1.pr.doc g4))
       clear g4 p4 hk4))
    | (go_at_call 63
       refine (unplanned_any w1.heap.size g g' c1 c2 (.slice a2 gs.length q2) (.slice a3 gr.length q3) gs gr w4
         (ownsRow_kept (ownsRow_kept H2.out.1 H3.out.2.1 (fun k hk e => (by simp only [Value.ownBlock, Option.some.injEq] at hk; omega))) H4.out.2 (fun k hk e => (by simp only [Value.ownBlock, Option.some.injEq] at hk; omega)))
         (ownsRow_kept (ownsRow_kept H2.out.2.1 H3.out.2.1 (fun k hk e => (by simp only [Value.ownBlock, Option.some.injEq] at hk; omega))) H4.out.2 (fun k hk e => (by simp only [Value.ownBlock, Option.some.injEq] at hk; omega)))
         H2.out.2.2.1 (HF.out _ (HB0.out _ H4.out.1.kp)).1 (HF.out _ (HB0.out _ H4.out.1.kp)).2 m4 m5 (fl_low HFS.out.1 (by omega)) (fl_low HFS.out.2 (by omega)) (fl_low HFS.out.2 (by omega))).mono ?_
       rintro e w5 ⟨rfl, hk5⟩
       have H5 := hid hk5
       have hp5 : PG d r w1 t R D w5 t2 R3 (planD gs gr D) (planD gs gr D) := by
         have hn : ∀ k, Pft d r t2 R3 (planD gs gr D) k → ¬ (k = g ∨ k = g') := fun k e e2 => by
           have p12 := H2.out.2.2.2
           have p24 : PG d r (w2.alloc (.cells #[.slice (some ⟨g, 0, none⟩) gs.length c1, .slice (some ⟨g', 0, none⟩) gr.length c2] 38)) t R D w4 t2 R3 (planD gs gr D) (planD gs gr D) := HP4.out
           rcases p24.ft k e with e3 | e3
           · have := HPL.out k e3; omega
           · simp at e3; omega
         exact ⟨H4.out.1.pr.kept hk5 hn, H4.out.1.kp.trans hk5 (fun k hk e => by omega), H4.out.1.ft⟩
       have ye := hp5.kp.cell x3 (fun e => absurd (HPL.out _ e) (Nat.lt_irrefl _))
       have H6 := hid hp5
       clear hk5 hp5))
  go_wp2_with (
    go_at_call 68
    refine (left_any (.slice a1 data.length q1) data (w.heap.size + 1) w5 (HSD.out w5 H6.out.kp).1.1 (by omega) (HSD.out w5 H6.out.kp).2).mono ?_
    rintro e w9 ⟨rfl, hdn⟩
    have H9 := hid hdn
    clear hdn)
  go_loopw [16] (fun i wr => ∃ (k : Nat) (bs : List Int), k ≤ data.length + 40 ∧ i = .int .i64 k ∧ bs.length = data.length + 40 ∧ Own wr (w.heap.size + 1) bs ∧ Hid (Kept (fun k => k = w.heap.size + 1) w5 wr)) (fun i _ => data.length + 40 - (intOf i).toNat)
  case atStart =>
    obtain ⟨m, rfl⟩ := H9.out
    exact ⟨0, rm data, Nat.zero_le _, by go_num, by simp [rm], (HSD.out w5 H6.out.kp).2, hid ((Kept.refl _ _).drewN m)⟩
  case round =>
    obtain ⟨k, bs, hk9, rfl, hbs, ho9, HK⟩ := hrel
    by_cases hlt : k < data.length + 40
    · have cd := ho9.cell k bs[k] (by simp [hbs, hlt])
      have fz := free_of_block (o := k) ho9
      have i2 : (k : Int) < ((data.length + 40 : Nat) : Int) := by omega
      have i3 : (k : Int) < (data.length : Int) + 40 := by omega
      have HO := hid ho9
      clear ho9
      go_wp2
      go_roundw
      case rel => exact ⟨k + 1, bs.set k 99, by omega, by go_num, by simp [hbs], HO.out.set k 99, hid (HK.out.setCell (p := ⟨w.heap.size + 1, k, none⟩) (fun _ => rfl) _)⟩
      case measure => simp [intOf]; omega
    · have i2 : ¬ (k : Int) < ((data.length + 40 : Nat) : Int) := by omega
      have i3 : ¬ (k : Int) < (data.length : Int) + 40 := by omega
      have HO := hid ho9
      clear ho9
      go_wp2
      go_ret
      exact ⟨rfl, t2, R3, planD gs gr D, PG.wipe HX.out.1 H1.out.2.1 H6.out HK.out (by omega) hz1, (HX.out.2.2.2.2.1.plan gs gr).mono (by omega), HX.out.2.2.2.2.2.1.same rfl rfl, m4, m5⟩

end Go.Proofs.YtlmompdfombgeaaGreat

namespace Go.Proofs.YtlmompdfombgeaaGreat
open Go.RowKit Go.MapKept

/-- A pick in lists of its own. -/
structure Qk where
  done : Int
  g : Nat
  cap : Nat
  lost : List Int
instance : Inhabited Qk := ⟨⟨0, 0, 0, []⟩⟩
def qcs (x : Qk) : List Value := [.int .i64 x.done, .slice (some ⟨x.g, 0, none⟩) x.lost.length x.cap]
def ics (ls : List Int) : List Value := ls.flatMap fun x => [.int .i64 x]
/-- Its list with the marks behind. -/
def Qk.ok (w : World) (B : Nat) (q : Qk) : Prop := w.ownsRow B 3 1 (.slice (some ⟨q.g, 0, none⟩) (q.lost.length + 2) q.cap) (q.lost.length + 2) (ics q.lost ++ [.int .i64 703, .int .i64 704])
/-- The same pick. -/
def Qk.as (q : Qk) (p : Pk) : Prop := q.done = p.done ∧ q.lost = p.lost

theorem Tryz.info91 : (Tryz.prog.info? 91).map (fun i => (i.zero, i.size, i.bytes)) = some (some (.agg #[.int .i64 0, .slice none 0 0]), 2, 32) := by kernel_rfl
theorem Tryz.elem64 : Tryz.prog.underlying 64 = some (.slice (Tryz.prog.elem 64)) := by kernel_rfl
theorem Tryz.elem64Is : Tryz.prog.elem 64 = 3 := by kernel_rfl
theorem Tryz.elem39 : Tryz.prog.underlying 39 = some (.slice (Tryz.prog.elem 39)) := by kernel_rfl
theorem Tryz.elem39Is : Tryz.prog.elem 39 = 91 := by kernel_rfl
theorem size91 (w : World) : (sizeOf (Tryz.prog.elem 39)).run Tryz.prog w = .ok 2 w := by
  obtain ⟨i0, hi, hz0, hz1, hz2⟩ := info_parts Tryz.info91
  rw [Tryz.elem39Is]
  simp [sizeOf, typeInfo, hi, hz1]
theorem size3 (w : World) : (sizeOf (Tryz.prog.elem 64)).run Tryz.prog w = .ok 1 w := by
  obtain ⟨i0, hi, hz0, hz1, hz2⟩ := info_parts Tryz.info3
  rw [Tryz.elem64Is]
  simp [sizeOf, typeInfo, hi, hz1]
theorem slice39 (a : Addr) (n hi cap : Nat) (h : hi ≤ cap) (wx : World) : (Instr.slice 39 (.slice (some a) n cap) none (some (.int .i64 hi)) none).run Tryz.prog wx = .ok (.slice (some a) hi cap) wx := by
  rw [run_slice_h wx 39 (some a) n cap Tryz.elem39 .i64 hi (by omega) (by omega), size91]
  simp [sliced, Addr.add]
theorem slice64 (a : Addr) (n hi cap : Nat) (h : hi ≤ cap) (wx : World) : (Instr.slice 64 (.slice (some a) n cap) none (some (.int .i64 hi)) none).run Tryz.prog wx = .ok (.slice (some a) hi cap) wx := by
  rw [run_slice_h wx 64 (some a) n cap Tryz.elem64 .i64 hi (by omega) (by omega), size3]
  simp [sliced, Addr.add]

theorem hp_below' {B k : Nat} {w w' : World} {o : Obj} (h : w.heap[k]? = some o) (hb : Below B w w') (hk : k < B) : w'.heap[k]? = some o := (hb.block k hk).trans h

/-- l holds the first k picks. -/
structure Pkd (B : Nat) (W wr : World) (v : Value) (ps : List Pk) (k : Nat) (qs : List Qk) : Prop where
  row : wr.ownsRow B 91 2 v k (qs.flatMap qcs)
  len : qs.length = k
  same : ∀ (i : Nat) (q : Qk) (p : Pk), qs[i]? = some q → ps[i]? = some p → q.as p
  ok : ∀ q ∈ qs, q.ok wr B
  ne : ∀ q ∈ qs, v.ownBlock ≠ some q.g
  bel : Below B W wr

/-- The picks as they were made. -/
structure Qks (w : World) (B g cap : Nat) (ps : List Pk) (qs : List Qk) : Prop where
  row : w.ownsRow B 91 2 (.slice (some ⟨g, 0, none⟩) (ps.length + 1) cap) (ps.length + 1) (qs.flatMap qcs ++ [.int .i64 705, .slice none 0 0])
  len : qs.length = ps.length
  same : ∀ (i : Nat) (q : Qk) (p : Pk), qs[i]? = some q → ps[i]? = some p → q.as p
  ok : ∀ q ∈ qs, q.ok w B

set_option maxRecDepth 100000 in
set_option maxHeartbeats 3200000 in
theorem picked_any (pn : Int) (fv : Value) (ps : List Pk) (w : World) (h : Pks w fv ps) (hl : ps.length ≤ 300) (hl2 : ∀ p ∈ ps, p.lost.length ≤ 300) :
    Calls Tryz.prog 64 #[.agg #[.int .i64 pn, fv]] w fun x w' => ∃ g cap qs, x = .returned (.agg #[.int .i64 pn, .slice (some ⟨g, 0, none⟩) ps.length cap]) ∧ Qks w' w.heap.size g cap ps qs ∧ Below w.heap.size w w' := by
  obtain ⟨ao, cp, rfl, hc1, hc2⟩ := h.1.shape
  have HP := hid h
  clear h
  obtain ⟨i91, hi91, hy0, hy1, hy2⟩ := info_parts Tryz.info91
  obtain ⟨i3, hi3, hx0, hx1, hx2⟩ := info_parts Tryz.info3
  have hb0 : Below w.heap.size w ((w.alloc (.cells #[.int .i64 pn, .slice ao ps.length cp] 41)).alloc (.cells #[.int .i64 0, .slice none 0 0] 41)) := ((Below.refl _ _).alloc (Nat.le_refl _) _).alloc (by simp) _
  have hp0 : ((w.alloc (.cells #[.int .i64 pn, .slice ao ps.length cp] 41)).alloc (.cells #[.int .i64 0, .slice none 0 0] 41)).heap[w.heap.size]? = some (.cells #[.int .i64 pn, .slice ao ps.length cp] 41 (0, 0)) := hp_alloc (hp_new _ _) _
  have hr0 : ((w.alloc (.cells #[.int .i64 pn, .slice ao ps.length cp] 41)).alloc (.cells #[.int .i64 0, .slice none 0 0] 41)).heap[w.heap.size + 1]? = some (.cells #[.int .i64 0, .slice none 0 0] 41 (0, 0)) := by
    have := hp_new (w.alloc (.cells #[.int .i64 pn, .slice ao ps.length cp] 41)) (.cells #[.int .i64 0, .slice none 0 0] 41)
    simpa using this
  have hs0 : ((w.alloc (.cells #[.int .i64 pn, .slice ao ps.length cp] 41)).alloc (.cells #[.int .i64 0, .slice none 0 0] 41)).heap.size = w.heap.size + 2 := by simp
  have H0 := hid (And.intro hb0 (And.intro hp0 (And.intro hr0 hs0)))
  clear hb0 hp0 hr0 hs0
  have HL2 := hid hl2
  clear hl2
  go_enter Tryz.func64, Tryz.ntmps64
  go_wp2
  go_loopw [3, 4] (fun l i wr => ∃ (k : Nat) (qs : List Qk) (v : Value), k ≤ ps.length ∧ i = .int .i64 k ∧ l = v ∧ Hid (Pkd (w.heap.size + 2) ((w.alloc (.cells #[.int .i64 pn, .slice ao ps.length cp] 41)).alloc (.cells #[.int .i64 0, .slice none 0 0] 41)) wr v ps k qs)) (fun _ i _ => ps.length - (intOf i).toNat)
  case atStart => exact ⟨0, [], .slice none 0 0, Nat.zero_le _, by go_num, rfl, hid ⟨owns_nil _ _ _ _, rfl, by simp, by simp, by simp, Below.refl _ _⟩⟩
  case round =>
    obtain ⟨k, qs, v, hk, rfl, rfl, HR⟩ := hrel
    obtain ⟨hrow, hlen, hsame, hok, hne, hbel⟩ := HR.out
    obtain ⟨hb0, hp0, hr0, hs0⟩ := H0.out
    have hzr : w.heap.size + 2 ≤ wr.heap.size := by have := hbel.size; omega
    have hbw : Below w.heap.size w wr := hb0.trans (hbel.mono (by omega))
    have hpr := hp_below' hp0 hbel (by omega)
    have hrr := hp_below' hr0 hbel (by omega)
    obtain ⟨p0, p1⟩ := cells2 hpr
    by_cases hlt : k < ps.length
    · obtain ⟨b, off, cap', e, -, -, hcell⟩ := Rf.elem (f := pcs) (fun _ => rfl) (by omega) HP.out.1 k hlt
      injection e with e1 e2 e3
      subst e1 e3
      clear e2
      obtain ⟨x, hxe⟩ : ∃ x, x = ps[k] := ⟨_, rfl⟩
      have hmem := List.getElem_mem hlt
      rw [← hxe] at hcell hmem
      have hpok := HP.out.2 x hmem
      have hlost := HL2.out x hmem
      obtain ⟨dn, lv, lost⟩ := x
      obtain ⟨-, hln, -, -⟩ := hpok
      obtain ⟨a5, q5, e5, d9, d10⟩ := hln.shape
      dsimp only at e5 hlost d9 d10
      subst e5
      have y0 : w.cell? ⟨b, off + k * 2, none⟩ = some (.int .i64 dn) := hcell 0 _ rfl
      have y1 : w.cell? ⟨b, off + k * 2 + 1, none⟩ = some (.slice a5 lost.length q5) := hcell 1 _ rfl
      have x0 := (hbw.cell (World.block_lt_of_cell? _ _ y0)).trans y0
      have x1 := (hbw.cell (World.block_lt_of_cell? _ _ y1)).trans y1
      have hlnr : Ln wr (.slice a5 lost.length q5) lost := hln.below hbw
      have i2 : (k : Int) < (ps.length : Int) := by omega
      have HX := hid (And.intro hxe (And.intro hpr (And.intro hrr (And.intro hbw hlnr))))
      have hbl : b < w.heap.size := World.block_lt_of_cell? _ _ y0
      clear hrow hlen hsame hok hne hbel hb0 hp0 hr0 hs0 hbw hpr hrr hcell hmem hln hlnr y0 y1 hxe
      go_wp2_with (
        at_builtin
        first
        | (refine wpList_append_rf _ rfl _ _ 64 3 _ 1 8 rfl Tryz.underlying64 Tryz.info3 rfl (by omega) (w.heap.size + 2) (.slice none 0 0) 0 [] rfl (owns_nil _ _ _ _) (.slice a5 lost.length q5) lost.length (lost.flatMap fun x => [.int .i64 x]) rfl HX.out.2.2.2.2 (by omega) (by unfold maxLen; omega) hzr ?_
           intro ao1 c1 w1 ho1 hg1 hat1
           have hb1 := (Below.refl wr.heap.size wr).grown hg1.out (Nat.le_refl _) (fun k e => by simp [Value.ownBlock] at e)
           have ho1' := ho1.out
           simp only [Nat.zero_add, List.nil_append] at ho1'
           have hat1' : ∀ k, (Value.slice ao1 lost.length c1).ownBlock = some k → wr.heap.size ≤ k := fun k hk => (by
             have := hat1.out
             simp only [Nat.zero_add] at this
             rw [hk] at this
             rcases this with h | h
             · simp [Value.ownBlock] at h
             · injection h with h; omega)
           have hz1 := hb1.size
           have H1 := hid (And.intro ho1' (And.intro hb1 hat1'))
           clear ho1 hg1 hat1 hb1 ho1' hat1')
        | (refine wpList_append_lies _ rfl _ _ 64 rfl (w.heap.size + 2) 3 i3 _ 1 8 Tryz.underlying64 hi3 hx0 hx1 hx2 rfl (by omega) (.slice ao1 lost.length c1) lost.length (lost.flatMap fun x => [.int .i64 x]) rfl (H1.out.1.alloc _) ⟨w1.heap.size, 0, none⟩ 2 2 [.int .i64 703, .int .i64 704] rfl rfl (World.news_of_block (cs := #[.int .i64 703, .int .i64 704]) (t := 3) (fr := (0, 0)) (heap_alloc_new w1 _)) (by simp [Value.oneCell']) (by omega) (by unfold maxLen; omega) (by omega) (by simp <;> omega) (w1.heap.size + 1) (by simp) ?_
           intro gm cm w2 hown hgrow hat hgl
           have K2 : Kept (fun k => (Value.slice ao1 lost.length c1).ownBlock = some k) w1 w2 := Kept.grown ((Kept.refl _ w1).alloc _) hgrow (fun k _ e => e)
           have hb2 : Below wr.heap.size wr w2 := H1.out.2.1.trans (K2.below H1.out.2.1.size (fun k hk e => (by have := H1.out.2.2 k e; omega)))
           have u0 := (hb2.cell (World.block_lt_of_cell? _ _ x0)).trans x0
           have u1 := (hb2.cell (World.block_lt_of_cell? _ _ x1)).trans x1
           have v1 := (hb2.cell (World.block_lt_of_cell? _ _ p1)).trans p1
           have hz2 := hb2.size
           have hgm : wr.heap.size ≤ gm := (by
             rcases hat with h | h
             · exact H1.out.2.2 _ h
             · omega)
           have sl := slice64 ⟨gm, 0, none⟩ (lost.length + 2) lost.length cm (by have := hown.2; rcases this with ⟨h, _⟩ | ⟨_, _, _, h, _, _, hc, _⟩; cases h; injection h with _ _ h; omega)
           have H2 := hid (And.intro hown (And.intro hb2 (And.intro hgm hgl)))
           clear hown hgrow hat hgl K2 hb2 hgm x0 x1 p0 p1))
      have hv2 : w2.ownsRow (w.heap.size + 2) 91 2 u3 k (qs.flatMap qcs) := ownsRow_kept HR.out.row (Kept.ofBelow H2.out.2.1) (fun _ _ e => e)
      have hlo : ∀ kk, kk < w.heap.size + 2 → ¬ u3.ownBlock = some kk := fun kk hk e => by have := (hv2.lt _ e).1; omega
      have HV := hid (And.intro hv2 hlo)
      clear hv2 hlo
      go_region_held_law (fun w' => w'.cell? ⟨w.heap.size, 1, none⟩ = some (.slice (some ⟨b, off, none⟩) ps.length cp) ∧ w'.cell? ⟨b, off + k * 2, none⟩ = some (.int .i64 dn) ∧ w'.cell? ⟨b, off + k * 2 + 1, none⟩ = some (.slice a5 lost.length q5)) (go_keep)
        ((refine step_append_lies _ (by rfl) _ _ _ (by rfl) (w.heap.size + 2) 91 i91 _ 2 32 Tryz.underlying39 hi91 hy0 hy1 hy2 rfl (by omega) u3 k (qs.flatMap qcs) (by rfl) ((HV.out.1.alloc _).drew)
            ⟨w2.heap.size, 0, none⟩ 1 1 [.int .i64 dn, .slice (some ⟨gm, 0, none⟩) lost.length cm] (by rfl) (by rfl) (World.news_of_block (cs := #[.int .i64 dn, .slice (some ⟨gm, 0, none⟩) lost.length cm]) (t := 91) (fr := (0, 0)) (heap_alloc_new w2 _)) (by simp [Value.oneCell'])
            (by omega) (by unfold maxLen; omega) (by omega) (by simp <;> omega) (w2.heap.size + 1) (by simp) ?_; intro gg cap w3 hown3 hgrow3 hat3 hlt3; have s1 := (hgrow3.cell_far ⟨w.heap.size, 1, none⟩ (by simp <;> omega) (Ne.symm (HV.out.2 _ (by dsimp only; omega)))).trans ((World.cell?_alloc_past _ _ _ (by first | omega | (simp; omega))).trans v1); have s2 := (hgrow3.cell_far ⟨b, off + k * 2, none⟩ (by simp <;> omega) (Ne.symm (HV.out.2 _ (by dsimp only; omega)))).trans ((World.cell?_alloc_past _ _ _ (by first | omega | (simp; omega))).trans u0); have s3 := (hgrow3.cell_far ⟨b, off + k * 2 + 1, none⟩ (by simp <;> omega) (Ne.symm (HV.out.2 _ (by dsimp only; omega)))).trans ((World.cell?_alloc_past _ _ _ (by first | omega | (simp; omega))).trans u1)))
      go_wp2
      go_roundw
      case rel =>
        obtain ⟨hrow, hlen, hsame, hok, hne, hbel⟩ := HR.out
        obtain ⟨hown, hb2, hgm, hgl⟩ := H2.out
        obtain ⟨hxe, hpr, hrr, hbw, hlnr⟩ := HX.out
        obtain ⟨hv2, hlo⟩ := HV.out
        have K3 : Kept (fun k => u3.ownBlock = some k) w2 w3 := Kept.grown (((Kept.refl _ w2).alloc _).drew) hgrow3 (fun k _ e => e)
        have hzz := hb2.size
        have hul : ∀ kk, u3.ownBlock = some kk → kk < wr.heap.size := fun kk e => (hrow.lt _ e).2
        refine ⟨k + 1, qs ++ [⟨dn, gm, cm, lost⟩], _, by omega, by go_num, rfl, hid ⟨?_, by simp [hlen], ?_, ?_, ?_, ?_⟩⟩
        · have e : (qs ++ [(⟨dn, gm, cm, lost⟩ : Qk)]).flatMap qcs = qs.flatMap qcs ++ [.int .i64 dn, .slice (some ⟨gm, 0, none⟩) lost.length cm] := by simp [qcs]
          rw [e]
          exact hown3
        · intro i q p hq hp
          by_cases hi : i < qs.length
          · rw [List.getElem?_append_left hi] at hq
            exact hsame i q p hq hp
          · rw [List.getElem?_append_right (by omega)] at hq
            have : i = k := by
              rcases Nat.lt_or_ge (i - qs.length) 1 with h | h
              · omega
              · rw [List.getElem?_eq_none (by simpa using h)] at hq; cases hq
            subst this
            simp [hlen] at hq
            simp [hlt] at hp
            rw [← hp, ← hxe, ← hq]
            exact ⟨rfl, rfl⟩
        · intro q hq
          rcases List.mem_append.1 hq with h | h
          · have o1 := ownsRow_kept (hok q h) (Kept.ofBelow hb2) (fun _ _ e => e)
            exact ownsRow_kept o1 K3 (fun kk hk e => hne q h (by simp only [Value.ownBlock] at hk; rw [e, ← hk]))
          · simp at h
            subst h
            exact ownsRow_kept hown K3 (fun kk hk e => by simp only [Value.ownBlock, Option.some.injEq] at hk; have := hul kk e; omega)
        · intro q hq e
          simp only [Value.ownBlock, Option.some.injEq] at e
          have hg2 : gg < wr.heap.size ∧ u3.ownBlock = some gg ∨ w2.heap.size < gg := by
            rcases hat3 with h | h
            · exact .inl ⟨hul _ h, h⟩
            · exact .inr (by omega)
          rcases List.mem_append.1 hq with h | h
          · have hql : q.g < wr.heap.size := ((hok q h).lt q.g rfl).2
            rcases hg2 with ⟨h1, h2⟩ | h1
            · exact hne q h (by rw [h2, e])
            · omega
          · simp at h
            subst h
            dsimp only at e
            rcases hg2 with ⟨h1, h2⟩ | h1
            · omega
            · omega
        · exact (hbel.trans (hb2.mono hzr)).trans (K3.below (by omega) hlo)
      case measure => simp [intOf]; omega
    · have hke : k = ps.length := by omega
      subst hke
      have i2 : ¬ (ps.length : Int) < (ps.length : Int) := by omega
      have ff : ∀ o, wr.frozen? ⟨w.heap.size + 1, o, none⟩ = false := fun o => free_of_block hrr
      obtain ⟨r0, r1⟩ := cells2 hrr
      have HX := hid (And.intro hpr (And.intro hrr hbw))
      have hul : ∀ kk, u3.ownBlock = some kk → w.heap.size + 2 ≤ kk := fun kk e => (hrow.lt _ e).1
      have HV := hid (And.intro hrow hul)
      clear hrow hlen hsame hok hne hbel hb0 hp0 hr0 hs0 hbw hpr hrr hul
      go_wp2_with (
        at_builtin
        first
        | (refine wpList_append_lies _ rfl _ _ 39 rfl (w.heap.size + 2) 91 i91 _ 2 32 Tryz.underlying39 hi91 hy0 hy1 hy2 rfl (by omega) u3 ps.length (qs.flatMap qcs) rfl (HV.out.1.alloc _) ⟨wr.heap.size, 0, none⟩ 1 1 [.int .i64 705, .slice none 0 0] rfl rfl (World.news_of_block (cs := #[.int .i64 705, .slice none 0 0]) (t := 91) (fr := (0, 0)) (heap_alloc_new wr _)) (by simp [Value.oneCell']) (by omega) (by unfold maxLen; omega) (by omega) (by simp <;> omega) (wr.heap.size + 1) (by simp) ?_
           intro gg cap w3 hown3 hgrow3 hat3 hlt3
           have K3 : Kept (fun k => u3.ownBlock = some k) wr w3 := Kept.grown ((Kept.refl _ wr).alloc _) hgrow3 (fun k _ e => e)
           have hlo : ∀ kk, kk < w.heap.size + 2 → ¬ u3.ownBlock = some kk := fun kk hk e => (by have := HV.out.2 kk e; omega)
           have s0 := K3.cell p0 (hlo _ (by dsimp only; omega))
           have s1 := K3.cell p1 (hlo _ (by dsimp only; omega))
           have t0 := K3.cell r0 (hlo _ (by dsimp only; omega))
           have t1 := K3.cell r1 (hlo _ (by dsimp only; omega))
           have hrr3 := hp_kept HX.out.2.1 K3 (hlo _ (by omega))
           have f3 : ∀ o, w3.frozen? ⟨w.heap.size + 1, o, none⟩ = false := fun o => free_of_block hrr3
           have hw3 : w.heap.size + 1 < w3.heap.size := hp_lt hrr3
           have sl := slice39 ⟨gg, 0, none⟩ (ps.length + 1) ps.length cap (by have := hown3.2; rcases this with ⟨h, _⟩ | ⟨_, _, _, h, _, _, hc, _⟩; cases h; injection h with _ _ h; omega)
           have H3 := hid (And.intro hown3 K3)
           clear hown3 hgrow3 hat3 hlt3 K3 hlo hrr3 p0 p1 r0 r1 ff))
      go_region
      go_wp2
      refine bodyPost_ret (v := .agg #[.int .i64 pn, .slice (some ⟨gg, 0, none⟩) ps.length cap]) (by simp [results, Tryz.results64, go_sem, t0, t1]) rfl ?_
      obtain ⟨hown3, K3⟩ := H3.out
      obtain ⟨hrow, hlen, hsame, hok, hne, hbel⟩ := HR.out
      have hlo : ∀ kk, kk < w.heap.size + 2 → ¬ u3.ownBlock = some kk := fun kk hk e => by have := HV.out.2 kk e; omega
      have k5 : Kept (fun k => k = w.heap.size + 1) w3 ((w3.setCell ⟨w.heap.size + 1, 0, none⟩ (.int .i64 pn)).setCell ⟨w.heap.size + 1, 1, none⟩ (.slice (some ⟨gg, 0, none⟩) ps.length cap)).drew := (((Kept.refl (fun k => k = w.heap.size + 1) w3).setCell (p := ⟨w.heap.size + 1, 0, none⟩) (fun _ => rfl) _).setCell (p := ⟨w.heap.size + 1, 1, none⟩) (fun _ => rfl) _).drew
      have o0 := ownsRow_kept hown3 k5 (fun k hk e => by have := (hown3.lt k hk).1; omega)
      have hbw3 : Below w.heap.size w w3 := HX.out.2.2.trans (K3.below HX.out.2.2.size (fun k hk => hlo k (by omega)))
      refine ⟨gg, cap, qs, rfl, ⟨ownsRow_base_a o0 (by omega), hlen, hsame, fun q hq => ?_⟩, ((hbw3.setCell (p := ⟨w.heap.size + 1, 0, none⟩) (by simp) _).setCell (p := ⟨w.heap.size + 1, 1, none⟩) (by simp) _).drew⟩
      have o1 := ownsRow_kept (hok q hq) K3 (fun kk hk e => hne q hq (by simp only [Value.ownBlock] at hk; rw [e, ← hk]))
      have o2 := ownsRow_kept o1 k5 (fun k hk e => by have := (o1.lt k hk).1; omega)
      exact ownsRow_base_a o2 (by omega)

end Go.Proofs.YtlmompdfombgeaaGreat
