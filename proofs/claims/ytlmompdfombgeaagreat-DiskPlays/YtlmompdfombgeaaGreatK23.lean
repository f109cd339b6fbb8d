import Derived.Test.YtlmompdfombgeaaGreatK09
import Derived.Test.YtlmompdfombgeaaGreatK21
import Derived.Test.YtlmompdfombgeaaGreatK10
namespace Go.Proofs.YtlmompdfombgeaaGreat
open Go.RowKit Go.MapKept

theorem Pends.single {w : World} {B : Nat} {vs vd : Value} {pend : List Value} {ys : List Int} (h : Pends w B vs vd pend [.inl ys]) : ∃ sv, pend = [.iface 124 sv] ∧ Sn w sv ys ∧ ∀ k, sv.ownBlock = some k → B ≤ k ∧ (∃ cs, w.heap[k]? = some (.cells cs 5 (0, 0))) ∧ vs.ownBlock ≠ some k ∧ vd.ownBlock ≠ some k := by
  obtain ⟨h1, h2⟩ := h
  match pend, h1 with
  | [v], _ =>
    obtain ⟨sv, rfl, a, b⟩ := h2 0 v (.inl ys) rfl rfl
    exact ⟨sv, rfl, a, b⟩

theorem noPanicOut {Q : Exit → Act → World → Prop} (e : Exit) (a : Act) (w : World) (h : NoPanic Q e a w) : Q e a w := by
  cases e <;> first | exact h | exact (h : False).elim

section
variable {B : Nat} {w : World} {d L Nb Fb p : Nat} {nm : ByteArray} {room limit : Int} {st rd : Int} {safe ys : List Int} {data : List Int} {fresh : List Bool} {peak : Int} {k1 k2 : Value} {pend : List Value} {vs vp vd vf : Value} {cL bL cN bN cF bF : Nat}

set_option maxRecDepth 100000 in
set_option maxHeartbeats 6400000 in
theorem crash_one (h : One B w d L Nb Fb p nm room limit #[{ key := .string nm, val := .int .i64 1, born := bF }] st rd safe [.inl ys] data fresh peak 0 [] (.slice none 0 0) k1 k2 pend vs vp vd vf cL bL cN bN cF) (hB : B ≤ w.heap.size) (hbf : bF < cF) (gq gl : Nat) (hq0 : w.cell? ⟨gq, 0, none⟩ = some (.int .i64 1)) (hq1 : w.cell? ⟨gq, 1, none⟩ = some (.slice (some ⟨gl, 0, none⟩) 1 1)) (hl0 : w.cell? ⟨gl, 0, none⟩ = some (.int .i64 0)) (hgp : gl ≠ p ∧ gl ≠ d)
    (l1 : safe.length ≤ 10000000) (l2 : ys.length ≤ 10000000) (hpos : 0 < safe.length + ys.length) (hs : nm.size ≤ maxLen) :
    Calls Tryz.prog 28 #[.pointer (some ⟨d, 0, none⟩), .agg #[.int .i64 0, .slice (some ⟨gq, 0, none⟩) 1 1]] w fun x w' => ∃ X cap Y D L' Nc F' sf' k1' k2' vs' vd' vf' cM bM, x = .returned (.slice (some ⟨X, 0, none⟩) 1 cap) ∧ w'.cell? ⟨X, 0, none⟩ = some (.string nm) ∧ w'.cell? ⟨X, 1, none⟩ = some (.slice (some ⟨Y, 0, none⟩) (safe ++ ys).length (safe ++ ys).length) ∧ Own w' Y (safe ++ ys) ∧
      D = loseTo 0 (min 16 (safe ++ ys).length) (safe ++ ys) (frs safe.length ys.length) ∧ One B w' d L' Nc F' p nm room limit sf' 0 0 D [] D (frs (safe ++ ys).length 0) (safe ++ ys).length 0 [] (.slice none 0 0) k1' k2' [] vs' (.slice none 0 0) vd' vf' 1 0 cM bM cM ∧ Below B w w' := by
  obtain ⟨c0, c1, c2, c3, c4, c5, c6, c7, c8, c9, c10, c11⟩ := h.disk.cells
  have hdl := hp_lt h.disk
  have hmm := @run_makeMap Tryz.prog
  have hmf : ∀ (fn : Fn) (first cap : Array Value) (w : World), (Instr.makeFunc fn first cap).run Tryz.prog w = .ok (.func fn first cap) w := fun _ _ _ _ => rfl
  have H := hid h
  clear h c0 c1 c3 c4 c6 c7 c8 c9 c10 c11
  have hpd := hp_lt H.out.file.blk
  have hql := World.block_lt_of_cell? _ _ hq0
  have hll := World.block_lt_of_cell? _ _ hl0
  have hb0 : Below w.heap.size w (((w.alloc (.cells #[.int .i64 0, .slice (some ⟨gq, 0, none⟩) 1 1] 41)).alloc (.map #[] 0)).alloc (.cells #[.map (some (w.heap.size + 1))] 131)) := (((Below.refl _ _).alloc (Nat.le_refl _) _).alloc (by simp) _).alloc (by simp; omega) _
  have hsz0 : (((w.alloc (.cells #[.int .i64 0, .slice (some ⟨gq, 0, none⟩) 1 1] 41)).alloc (.map #[] 0)).alloc (.cells #[.map (some (w.heap.size + 1))] 131)).heap.size = w.heap.size + 3 := by simp
  have hx0 : (((w.alloc (.cells #[.int .i64 0, .slice (some ⟨gq, 0, none⟩) 1 1] 41)).alloc (.map #[] 0)).alloc (.cells #[.map (some (w.heap.size + 1))] 131)).heap[w.heap.size]? = some (.cells #[.int .i64 0, .slice (some ⟨gq, 0, none⟩) 1 1] 41 (0, 0)) := hp_alloc (hp_alloc (hp_new _ _) _) _
  have hM0 : (((w.alloc (.cells #[.int .i64 0, .slice (some ⟨gq, 0, none⟩) 1 1] 41)).alloc (.map #[] 0)).alloc (.cells #[.map (some (w.heap.size + 1))] 131)).heap[w.heap.size + 1]? = some (.map #[] 0) := by
    have := hp_alloc (hp_new (w.alloc (.cells #[.int .i64 0, .slice (some ⟨gq, 0, none⟩) 1 1] 41)) (.map #[] 0)) (.cells #[.map (some (w.heap.size + 1))] 131)
    simpa using this
  have hw0 : (((w.alloc (.cells #[.int .i64 0, .slice (some ⟨gq, 0, none⟩) 1 1] 41)).alloc (.map #[] 0)).alloc (.cells #[.map (some (w.heap.size + 1))] 131)).heap[w.heap.size + 2]? = some (.cells #[.map (some (w.heap.size + 1))] 131 (0, 0)) := by
    have := hp_new ((w.alloc (.cells #[.int .i64 0, .slice (some ⟨gq, 0, none⟩) 1 1] 41)).alloc (.map #[] 0)) (.cells #[.map (some (w.heap.size + 1))] 131)
    simpa using this
  have hcall := making_one d L bL cL _ (((w.alloc (.cells #[.int .i64 0, .slice (some ⟨gq, 0, none⟩) 1 1] 41)).alloc (.map #[] 0)).alloc (.cells #[.map (some (w.heap.size + 1))] 131)) ((hb0.cell hdl).trans c2) (hp_below H.out.hL hb0 (hp_lt H.out.hL)) H.out.bl
  obtain ⟨W0, hW0⟩ : ∃ W0, W0 = (((w.alloc (.cells #[.int .i64 0, .slice (some ⟨gq, 0, none⟩) 1 1] 41)).alloc (.map #[] 0)).alloc (.cells #[.map (some (w.heap.size + 1))] 131)) := ⟨_, rfl⟩
  have hQ := hcall
  rw [← hW0] at hb0 hsz0 hx0 hM0 hw0
  have HW0 := hid hW0
  have HI := hid (And.intro hb0 (And.intro hsz0 (And.intro hx0 (And.intro hM0 hw0))))
  have HC := hid hQ
  clear hb0 hsz0 hx0 hM0 hw0 hW0 hcall hQ c5
  go_enter Tryz.func28, Tryz.ntmps28
  go_wp2_with (
    go_at_call 73
    refine HC.out.mono ?_
    rintro e w1 ⟨gn, capn, rfl, hgn, hb1⟩
    rw [← HW0.out] at hb1
    have HB1 := hid hb1
    clear hb1)
  obtain ⟨hb0, hsz0, hx0, hM0, hw0⟩ := HI.out
  have hb1 := HB1.out
  have hbw1 : Below w.heap.size w w1 := hb0.trans (hb1.mono (by omega))
  have hz1 := hb1.size
  have hO1 := H.out.below hbw1
  have hx1 := hp_below hx0 hb1 (by omega)
  have hM1 := hp_below hM0 hb1 (by omega)
  have hw1 := hp_below hw0 hb1 (by omega)
  obtain ⟨a0, a1⟩ := cells2 hx1
  have a2 : w1.cell? ⟨w.heap.size + 2, 0, none⟩ = some (.map (some (w.heap.size + 1))) := by rw [cell_of_row w1 _ 0 _ _ _ hw1]; rfl
  have a3 := (hbw1.cell hql).trans hq0
  have a4 := (hbw1.cell (World.block_lt_of_cell? _ _ hq1)).trans hq1
  have a5 := (hbw1.cell hll).trans hl0
  obtain ⟨-, -, e2, -, -, e5, e6, -⟩ := hO1.disk.cells
  have hgnl := World.block_lt_of_cell? _ _ hgn
  have r1 : d < w1.heap.size := by omega
  have r2 : gq < w1.heap.size := by omega
  have r3 : w.heap.size + 2 < w1.heap.size := by omega
  have r4 : w.heap.size < w1.heap.size := by omega
  have hlk : ∀ o, (Instr.lookup 46 (.map (some L)) (.int .i64 1) false).run Tryz.prog ((w1.alloc o).drew) = .ok (.pointer (some ⟨p, 0, none⟩)) ((w1.alloc o).drew) := fun o => by
    have := look_found (w := (w1.alloc o).drew) Tryz.underlying46 Tryz.underlying3 (hp_alloc hO1.hL o) (key_int 1) (show Instr.findNow (.int .i64) (.int .i64 1) _ 0 = some (some (0, .pointer (some ⟨p, 0, none⟩))) by simp [Instr.findNow, Instr.sameNow]) false
    simpa using this
  have HJ := hid (And.intro hbw1 (And.intro hO1 (And.intro hx1 (And.intro hM1 (And.intro hw1 hz1)))))
  have HZ0 := hid hsz0
  clear hb0 hsz0 hx0 hM0 hw0 hb1 hbw1 hz1 hO1 hx1 hM1 hw1 HI HB1 HC HW0
  refine wp_loop_rounds 2 ?_
  rw [rounds_succ]
  go_wp2_with fail
  obtain ⟨sv, hpe, hsn, -⟩ := HJ.out.2.1.pen.single
  subst hpe
  have HSN := hid hsn
  clear hsn
  refine Code.wp_mono (Q := NoPanic (fun ex a' w' => ∃ X vs' vd' vf', ex = Exit.normal ∧ a' = { tmps := #[Value.pointer (some { block := d, off := 0 }), Value.agg #[Value.int IntKind.i64 0, Value.slice (some { block := gq, off := 0 }) 1 1], undef, Value.pointer (some { block := w.heap.size, off := 0 }), Value.slice none 0 0, Value.pointer (some { block := w.heap.size + 1 + 1, off := 0 }), Value.int IntKind.i64 0, Value.int IntKind.i64 1, Value.pointer (some { block := w1.heap.size, off := 0 }), undef, undef, undef, Value.pointer (some { block := d, off := 0 }), Value.bool false, Value.map (some (w.heap.size + 1)), Value.pointer (some { block := d, off := 0 }), Value.slice (some { block := gn, off := 0 }) 1 capn, Value.int IntKind.i64 1, Value.int IntKind.i64 0, Value.bool true, Value.int IntKind.i64 0, Value.pointer (some { block := gn, off := 0 }), Value.int IntKind.i64 1, Value.int IntKind.i64 0, Value.pointer (some { block := w.heap.size, off := 1 }), Value.slice (some { block := gq, off := 0 }) 1 1, Value.int IntKind.i64 1, Value.bool true, Value.pointer (some { block := w.heap.size, off := 1 }), Value.slice (some { block := gq, off := 0 }) 1 1, Value.int IntKind.i64 0, Value.pointer (some { block := gq, off := 0 }), Value.agg #[Value.int IntKind.i64 1, Value.slice (some { block := gl, off := 0 }) 1 1], Value.map (some (w.heap.size + 1)), Value.int IntKind.i64 1, Value.pointer (some { block := d, off := 0 }), Value.pointer (some { block := d, off := 0 }), Value.pointer (some { block := d, off := 2 }), Value.map (some L), Value.int IntKind.i64 1, Value.pointer (some { block := p, off := 0 }), Value.agg #[Value.int IntKind.i64 1, Value.slice (some { block := gl, off := 0 }) 1 1], Value.slice (some { block := X, off := 0 }) (safe.length + ys.length) (safe.length + ys.length), undef, undef, undef, undef, undef, undef, undef, undef, undef, undef, undef, undef, undef, undef, undef, undef, undef, undef, undef, undef, undef, undef, undef, undef, undef, undef, undef, undef, undef, undef, undef, undef, undef, undef, undef, undef, undef, undef, undef, undef, undef], defers := [] } ∧ Hid (One B w' d L Nb Fb p nm room limit #[{ key := .string nm, val := .int .i64 1, born := bF }] st rd (loseTo 0 (min 16 (safe ++ ys).length) (safe ++ ys) (frs safe.length ys.length)) [] (loseTo 0 (min 16 (safe ++ ys).length) (safe ++ ys) (frs safe.length ys.length)) (frs (safe ++ ys).length 0) (safe ++ ys).length 0 [] (.slice none 0 0) k1 k2 [] vs' (.slice none 0 0) vd' vf' cL bL cN bN cF ∧ Own w' X (safe ++ ys) ∧ w.heap.size ≤ X ∧
      w'.heap[w.heap.size + 1]? = some (.map #[{ key := .int .i64 1, val := .slice (some ⟨X, 0, none⟩) (safe.length + ys.length) (safe.length + ys.length), born := 0 }] 1) ∧ w'.heap[w.heap.size]? = some (.cells #[.int .i64 0, .slice (some ⟨gq, 0, none⟩) 1 1] 41 (0, 0)) ∧ w'.heap[w.heap.size + 2]? = some (.cells #[.map (some (w.heap.size + 1))] 131 (0, 0)) ∧ Below B w w' ∧ w1.heap.size ≤ w'.heap.size))) ?mono ?reg
  case' reg =>
    have hcall := fcrash_one B p gl sv (w1.alloc (.cells #[.int .i64 1, .slice (some ⟨gl, 0, none⟩) 1 1] 91)).drew safe ys data fresh peak vs vp vd vf (by have := HJ.out.2.1.file.below ((Below.refl _ w1).alloc (Nat.le_refl _) (.cells #[.int .i64 1, .slice (some ⟨gl, 0, none⟩) 1 1] 91)).drew; exact this) (HSN.out.below ((Below.refl _ w1).alloc (Nat.le_refl _) _).drew) (by simpa [World.cell?_alloc_past _ _ _ (show (⟨gl, 0, none⟩ : Addr).block < w1.heap.size from World.block_lt_of_cell? _ _ a5)] using a5) (by simp; omega) l1 l2 hpos
    have HCa := hid hcall
    clear hcall
    go_region_with (
      go_at_call 93
      refine HCa.out.mono ?_
      rintro e w2 ⟨X, vs', vd', vf', rfl, hX, hOw, hfile, hk2⟩
      have hk2' : Kept (fun k => k = p) w1 w2 := (by
        have k0 : Kept (fun k => k = p) w1 (w1.alloc (.cells #[.int .i64 1, .slice (some ⟨gl, 0, none⟩) 1 1] 91)) := (Kept.refl _ w1).alloc _
        exact k0.trans ⟨hk2.os, hk2.tape, hk2.output, hk2.size, hk2.block⟩ (fun _ _ e => e))
      have hM2 := (show w2.heap[w.heap.size + 1]? = some (.map #[] 0) from hp_kept HJ.out.2.2.2.1 hk2' (by omega))
      have g2 := (show w2.cell? ⟨w.heap.size + 2, 0, none⟩ = some (.map (some (w.heap.size + 1))) from hk2'.cell a2 (by simp; omega))
      have hu := upd_new (w := w2) Tryz.underlying131 Tryz.underlying3 hM2 (key_int 1) (.slice (some ⟨X, 0, none⟩) (safe ++ ys).length (safe ++ ys).length) rfl
      simp only [List.length_append] at hu
      have HX := hid (And.intro hX (And.intro hOw (And.intro hfile (And.intro hk2' hM2))))
      clear hX hOw hfile hk2 hk2' hM2)
    all_goals
      obtain ⟨hX, hOw, hfile, hk2, hM2⟩ := HX.out
      obtain ⟨hbw1, hO1, hx1, hM1, hw1, hz1⟩ := HJ.out
      have hz2 := hk2.size
      have hK3 : Kept (fun k => k = w.heap.size + 1) w2 (puts w2 (w.heap.size + 1) (.map #[{ key := .int .i64 1, val := .slice (some ⟨X, 0, none⟩) (safe.length + ys.length) (safe.length + ys.length), born := 0 }] 1)) := (Kept.refl (fun k => k = w.heap.size + 1) w2).puts (fun _ => rfl) _
      have hXz : w1.heap.size + 1 ≤ X := by simpa using hX
      have hnm : ∀ (v : Value) (e : TypeId) (m : Nat) (zs : List Value), w2.ownsRow B e 1 v m zs → ∀ k, v.ownBlock = some k → ¬ k = w.heap.size + 1 := by
        intro v e m zs ho k hk ek
        obtain ⟨cs, hc⟩ := owns_block ho k hk
        rw [ek, hM2] at hc
        cases hc
      have hfile3 := hfile.kept hK3 (fun e => by have := hp_lt H.out.file.blk; omega) (hnm _ _ _ _ hfile.os) (hnm _ _ _ _ hfile.op) (hnm _ _ _ _ hfile.od) (hnm _ _ _ _ hfile.of)
      have hkw : Kept (fun k => k = p ∨ vs.ownBlock = some k ∨ vp.ownBlock = some k ∨ vd.ownBlock = some k ∨ vf.ownBlock = some k) w (puts w2 (w.heap.size + 1) (.map #[{ key := .int .i64 1, val := .slice (some ⟨X, 0, none⟩) (safe.length + ys.length) (safe.length + ys.length), born := 0 }] 1)) :=
        ((((Kept.ofBelow hbw1).mono (fun _ _ e => e.elim)).trans hk2 (fun i _ e => .inl e))).trans hK3 (fun i hi e => by omega)
      obtain ⟨hO3, hB3⟩ := H.out.change hkw hfile3 (Pends.nil _ _ _ _)
      refine ⟨X, vs', vd', vf', rfl, rfl, hid ⟨hO3, hp_kept hOw hK3 (by omega), by omega, puts_same hM2, hp_kept (hp_kept hx1 hk2 (by omega)) hK3 (by omega), hp_kept (hp_kept hw1 hk2 (by omega)) hK3 (by omega), hB3, by rw [puts_size]; omega⟩⟩
  case' mono =>
    intro ex a' W3 hq
    obtain ⟨X, vs', vd', vf', rfl, rfl, HX⟩ := noPanicOut _ _ _ hq
    clear hq
    obtain ⟨hO3, hOw3, hXw, hM3, hx3, hw3, hb3, hz3⟩ := HX.out
    obtain ⟨-, -, f2, -, -, f5, f6, -⟩ := hO3.disk.cells
    obtain ⟨n0, n1⟩ := cells2 hx3
    have hwz : w.heap.size + 2 < W3.heap.size := hp_lt hw3
    have hdl3 : d < W3.heap.size := hp_lt hO3.disk
    have hBW : B ≤ W3.heap.size := by have := hb3.size; omega
    have Hcl := hid (mapsClone_any Fb _ cF W3 hO3.hF)
    clear hO3 hOw3 hXw hM3 hx3 hw3 hb3 hz3
    go_wp2
    rw [rounds_succ]
    go_wp2_with (
      go_at_call 90
      refine Hcl.out.mono ?_
      rintro e w4 ⟨rfl, rfl⟩)
    have hO4 := (show One B (W3.alloc (.map #[{ key := .string nm, val := .int .i64 1, born := bF }] cF)) d L Nb Fb p nm room limit _ st rd _ [] _ _ _ 0 [] (.slice none 0 0) k1 k2 [] vs' (.slice none 0 0) vd' vf' cL bL cN bN cF from HX.out.1.below ((Below.refl _ _).alloc (Nat.le_refl _) _))
    have hx4 := hp_alloc HX.out.2.2.2.2.1 (.map #[{ key := .string nm, val := .int .i64 1, born := bF }] cF)
    have hNc : (W3.alloc (.map #[{ key := .string nm, val := .int .i64 1, born := bF }] cF)).heap[W3.heap.size]? = some (.map #[{ key := .string nm, val := .int .i64 1, born := bF }] cF) := hp_new _ _
    obtain ⟨W4, hW4⟩ : ∃ W4, W4 = W3.alloc (.map #[{ key := .string nm, val := .int .i64 1, born := bF }] cF) := ⟨_, rfl⟩
    rw [← hW4] at hO4 hx4 hNc ⊢
    obtain ⟨-, -, -, -, -, -, g6, -⟩ := hO4.disk.cells
    obtain ⟨m0, m1⟩ := cells2 hx4
    have hs48 : ∀ wx : World, (Instr.slice 48 (.slice none 0 0) none (some (.int .i64 0)) none).run Tryz.prog wx = .ok (.slice none 0 0) wx := fun wx => by kernel_rfl
    have HO4 := hid (And.intro hO4 hNc)
    have HW4 := hid hW4
    clear hW4 hO4 hNc hx4 f2 f5 f6 n0 n1
    go_quiet ((go_at_call 94; exact Calls.quiet_of_same (round_small 0 1 _ (by omega) (by omega) (by omega))))
    go_wp2
    refine wp_loop_rounds 1 ?_
    rw [rounds_succ]
    have hst := settle_one (show One B (W4.drewN nq) d L Nb Fb p nm room limit _ st rd _ [] _ _ _ 0 [] (.slice none 0 0) k1 k2 [] vs' (.slice none 0 0) vd' vf' cL bL cN bN cF from HO4.out.1.kept (S := fun _ => False) ⟨rfl, rfl, rfl, Nat.le_refl _, fun _ _ _ => rfl⟩ (fun _ e => e)) (show B ≤ W4.heap.size by rw [HW4.out]; simp; omega) W3.heap.size cF bF HO4.out.2 hbf hBW
    have HST := hid hst
    clear hst
    go_wp2_with (
      go_at_call 86
      refine HST.out.mono ?_
      rintro e w5 ⟨rfl, L', F', hO5, hb5, hk5⟩
      have hd5 := hO5.disk
      obtain ⟨-, -, -, -, -, -, -, z7, -⟩ := hd5.cells
      have zf := hd5.free
      have H5 := hid (And.intro hO5 (And.intro hb5 hk5))
      clear hO5 hb5 hk5 hd5)
    have hpl := plan_none d (w5.setCell ⟨d, 7, none⟩ (.bool false)) room limit _ 1 _ _ _ false st k1 rd k2 (show DiskB (w5.setCell ⟨d, 7, none⟩ (.bool false)) d room limit (.map (some L')) 1 (.map (some W3.heap.size)) (.map (some F')) (.slice none 0 0) false st k1 rd k2 from set_block (i := 7) H5.out.1.disk _)
    have HPL := hid hpl
    clear hpl
    go_wp2_with (
      go_at_call 19
      refine HPL.out.mono ?_
      rintro e w6 ⟨rfl, m1, m2, hd6, hm1, hm2, hg1, hg2, hk6⟩
      have H6 := hid (And.intro hd6 (And.intro hm1 (And.intro hm2 (And.intro hg1 (And.intro hg2 hk6)))))
      clear hd6 hm1 hm2 hg1 hg2 hk6)
    obtain ⟨hO3, hOw3, hXw, hM3, hx3, hw3, hb3, hz3⟩ := HX.out
    obtain ⟨hO5, hb5, hk5⟩ := H5.out
    obtain ⟨hd6, hm1, hm2, hg1, hg2, hk6⟩ := H6.out
    have hk56 : Kept (fun k => k = d) w5 w6 := ((Kept.refl (fun k => k = d) w5).setCell (p := ⟨d, 7, none⟩) (fun _ => rfl) _).trans hk6 (fun _ _ e => e)
    have hk46 : Kept (fun k => k = d) W4 w6 := (show Kept (fun k => k = d) W4 w5 from ⟨hk5.os, hk5.tape, hk5.output, hk5.size, hk5.block⟩).trans hk56 (fun _ _ e => e)
    have hk34 : Kept (fun k => k = d) W3 W4 := by rw [HW4.out]; exact (Kept.refl _ W3).alloc _
    have hk36 := hk34.trans hk46 (fun _ _ e => e)
    have hge := H.out.ge
    have hNc6 := hp_kept HO4.out.2 hk46 (show W3.heap.size ≠ d by omega)
    have hM6 := hp_kept hM3 hk36 (show w.heap.size + 1 ≠ d by omega)
    have hw6 := hp_kept hw3 hk36 (show w.heap.size + 2 ≠ d by omega)
    have hOw6 : Own w6 X (safe ++ ys) := hp_kept hOw3 hk36 (show X ≠ d by omega)
    have hxw : w6.cell? ⟨w.heap.size + 2, 0, none⟩ = some (.map (some (w.heap.size + 1))) := by rw [cell_of_row w6 _ 0 _ _ _ hw6]; rfl
    have hdd := hO5.disk
    have hO6 : One B w6 d L' W3.heap.size F' p nm room limit #[{ key := .string nm, val := .int .i64 1, born := bF }] 0 0 (loseTo 0 (min 16 (safe ++ ys).length) (safe ++ ys) (frs safe.length ys.length)) [] (loseTo 0 (min 16 (safe ++ ys).length) (safe ++ ys) (frs safe.length ys.length)) (frs (safe ++ ys).length 0) (safe ++ ys).length 0 [] (.slice none 0 0) (.map (some m1)) (.map (some m2)) [] vs' (.slice none 0 0) vd' vf' 1 0 cF bF cF := by
      refine ⟨hd6, hp_kept hO5.hL hk56 (fun e => hp_ne hdd hO5.hL (by simp) e.symm), hp_kept hO5.hN hk56 (fun e => hp_ne hdd hO5.hN (by simp) e.symm), hp_kept hO5.hF hk56 (fun e => hp_ne hdd hO5.hF (by simp) e.symm), hO5.nf, hO5.bl, hO5.bn, hO5.file.kept hk56 (fun e => hp_ne hdd hO5.file.blk (by simp) e.symm) ?_ ?_ ?_ ?_, Pends.nil _ _ _ _, owns_nil _ _ _ _, .inr ⟨m1, 0, rfl, hm1⟩, .inr ⟨m2, 0, rfl, hm2⟩, hO5.ge⟩
      · intro k hq e; subst e; exact own_ne_blk hO5.file.os hdd (by decide) hq
      · intro k hq e; subst e; exact own_ne_blk hO5.file.op hdd (by decide) hq
      · intro k hq e; subst e; exact own_ne_blk hO5.file.od hdd (by decide) hq
      · intro k hq e; subst e; exact own_ne_blk hO5.file.of hdd (by decide) hq
    have hb6 : Below B w w6 := (hb3.trans (hk36.below hBW (fun k hk e => by omega)))
    have hB6 : B ≤ w6.heap.size := by have := hb6.size; omega
    have htold := told_one W3.heap.size bF cF 97 nm #[.pointer (some ⟨w.heap.size + 2, 0, none⟩)] (some ⟨X, 0, none⟩) (safe.length + ys.length) (safe.length + ys.length) w6 hNc6 hbf hs (enters_of Tryz.func97 (by kernel_rfl) rfl) (fun wx hbx => by
      refine (crash1_any (w.heap.size + 2) (w.heap.size + 1) 1 0 (.slice (some ⟨X, 0, none⟩) (safe.length + ys.length) (safe.length + ys.length)) wx ((hbx.cell (World.block_lt_of_cell? _ _ hxw)).trans hxw) (hp_below hM6 hbx (hp_lt hM6))).mono ?_
      rintro e w8 ⟨rfl, rfl⟩
      exact ⟨rfl, Below.refl _ _⟩)
    have HT := hid htold
    have HF := hid (And.intro hO6 (And.intro hOw6 (And.intro hb6 hB6)))
    clear hO3 hOw3 hXw hM3 hx3 hw3 hb3 hz3 hO5 hb5 hk5 hd6 hm1 hm2 hg1 hg2 hk6 hk56 hk46 hk34 hk36 hNc6 hM6 hw6 hOw6 hxw hdd hO6 hb6 hB6 htold
    go_wp2_with (
      go_at_call 96
      refine HT.out.mono ?_
      rintro e w7 ⟨Z, capz, rfl, hz0, hz1, hbz⟩
      have HZ := hid (And.intro hz0 (And.intro hz1 hbz))
      clear hz0 hz1 hbz)
    go_ret
    obtain ⟨hO6, hOw6, hb6, hB6⟩ := HF.out
    obtain ⟨hz0, hz1, hbz⟩ := HZ.out
    have hnl : (safe ++ ys).length = safe.length + ys.length := by simp
    exact ⟨Z, capz, X, _, L', W3.heap.size, F', _, _, _, vs', vd', vf', cF, bF, rfl, hz0, by rw [hnl]; exact hz1, hp_below hOw6 hbz (hp_lt hOw6), rfl, hO6.below hbz, hb6.trans (hbz.mono hB6)⟩

end
end Go.Proofs.YtlmompdfombgeaaGreat

namespace Go.Proofs.YtlmompdfombgeaaGreat
open Go.RowKit Go.MapKept

/-- The name of the file. -/
abbrev nmA : ByteArray := { data := #[97] }
/-- Fives, sevens. -/
abbrev s5 : List Int := [5, 5, 5, 5]
abbrev s7 : List Int := [7, 7, 7, 7, 7, 7, 7, 7, 7, 7, 7, 7, 7, 7, 7, 7, 7, 7, 7, 7]

theorem sl_new (w : World) (bs : List Int) (hl : bs.length ≤ maxLen) : Sl (w.alloc (.cells (B8 bs).toArray 5)) (.slice (some ⟨w.heap.size, 0, none⟩) bs.length bs.length) bs :=
  sl_of_owns ((show Own (w.alloc (.cells (B8 bs).toArray 5)) w.heap.size bs from hp_new _ _).owns (Nat.zero_le _) hl)

set_option maxRecDepth 100000 in
set_option maxHeartbeats 6400000 in
theorem known_any (w : World) : Calls Tryz.prog 12 #[] w fun x w' => x = .returned (.bool true) ∧ Below w.heap.size w w' := by
  have hok : nmOK nmA = true := by decide
  have hnm : nmA.size ≤ maxLen := by decide
  have hne : Hid (nmA.toList.isEmpty = false) := hid (by kernel_rfl)
  have hns : nmA.size ≤ 1000000 := by decide
  go_enter Tryz.func12, Tryz.ntmps12
  go_wp2_with (
    go_at_call 9
    refine (new_ok 100 3 w (by omega) (by omega) (by omega) (by omega)).mono ?_
    rintro e w1 ⟨rfl, hz1, hb1⟩
    have H1 := hid (And.intro hz1 hb1)
    clear hz1 hb1)
  go_wp2_with (
    go_at_call 20
    refine (create_new (nm := nmA) H1.out.1 H1.out.2.size (by omega) hok hns hne.out (by omega) (by omega)).mono ?_
    rintro e w2 ⟨rfl, p, vs, vd, vf, vn, ho2, hb2⟩
    have H2 := hid (And.intro ho2 (H1.out.2.trans hb2))
    clear ho2 hb2)
  go_wp2_with (
    go_at_call 20
    refine (create_old H2.out.1 hok hnm).mono ?_
    rintro e w3 ⟨rfl, hb3⟩
    have H3 := hid (And.intro (H2.out.1.below hb3) (H2.out.2.trans (hb3.mono H2.out.2.size)))
    clear hb3)
  have h3z := H3.out.2.size
  have h3d := hp_lt H3.out.1.disk
  go_wp2_with (
    go_at_call 21
    refine (append_one (H3.out.1.below ((Below.refl _ w3).alloc (Nat.le_refl _) (.cells (B8 s5).toArray 5))) (by simp; omega) (some ⟨w3.heap.size, 0, none⟩) 4 s5 (sl_new w3 s5 (by decide)) (by intro k hk; simp [Value.ownBlock] at hk; omega) (by decide) hok hnm (by omega) (by omega) (by decide) (by decide) (by decide) (by decide) (by omega) (by omega) (by decide)).mono ?_
    rintro e w4 ⟨rfl, pd4, vp4, vd4, vf4, ho4, hb4⟩
    have H4 := hid (And.intro (show One w.heap.size w4 w.heap.size (w.heap.size + 1) (w.heap.size + 2) (w.heap.size + 3) p nmA 100 3 #[] 2 0 [] [.inl s5] s5 (frs 0 4) 4 1 _ vn _ _ pd4 vs vp4 vd4 vf4 1 0 1 0 0 from ho4) ((H3.out.2.alloc (by omega) _).trans hb4))
    clear ho4 hb4)
  go_wp2_with (
    go_at_call 23
    refine (sync_one (m := 0) (t := 4) H4.out.1 H4.out.2.size (by decide) (by decide) (by decide) (by decide) (by decide) hok hnm (by omega) (by omega)).mono ?_
    rintro e w5 ⟨rfl, vs5, ho5, hb5⟩
    have H5 := hid (And.intro (show One w.heap.size w5 w.heap.size (w.heap.size + 1) (w.heap.size + 2) (w.heap.size + 3) p nmA 100 3 #[] 3 0 s5 [] s5 (frs 4 0) 4 1 _ vn _ _ [] vs5 _ vd4 vf4 1 0 1 0 0 from ho5) (H4.out.2.trans hb5))
    clear ho5 hb5)
  have h5z := H5.out.2.size
  have h5d := hp_lt H5.out.1.disk
  go_wp2_with (
    go_at_call 21
    refine (append_one (H5.out.1.below ((Below.refl _ w5).alloc (Nat.le_refl _) (.cells (B8 s7).toArray 5))) (by simp; omega) (some ⟨w5.heap.size, 0, none⟩) 20 s7 (sl_new w5 s7 (by decide)) (by intro k hk; simp [Value.ownBlock] at hk; omega) (by decide) hok hnm (by omega) (by omega) (by decide) (by decide) (by decide) (by decide) (by omega) (by omega) (by decide)).mono ?_
    rintro e w6 ⟨rfl, pd6, vp6, vd6, vf6, ho6, hb6⟩
    have H6 := hid (And.intro (show One w.heap.size w6 w.heap.size (w.heap.size + 1) (w.heap.size + 2) (w.heap.size + 3) p nmA 100 3 #[] 4 0 s5 [.inl s7] (s5 ++ s7) (frs 4 20) 24 1 _ vn _ _ pd6 vs5 vp6 vd6 vf6 1 0 1 0 0 from ho6) ((H5.out.2.alloc (by omega) _).trans hb6))
    clear ho6 hb6)
  go_wp2_with (
    go_at_call 24
    refine (syncNames_one H6.out.1 H6.out.2.size (by omega) (by omega)).mono ?_
    rintro e w7 ⟨rfl, L7, F7, ho7, hb7⟩
    have c8 := ho7.disk.cells.2.2.2.2.2.2.2.2.1
    have H7 := hid (And.intro (show One w.heap.size w7 w.heap.size L7 (w.heap.size + 2) F7 p nmA 100 3 #[{ key := .string nmA, val := .int .i64 1, born := 0 }] 5 0 s5 [.inl s7] (s5 ++ s7) (frs 4 20) 24 0 [] (.slice none 0 0) _ _ pd6 vs5 vp6 vd6 vf6 1 0 1 0 1 from ho7) (H6.out.2.trans hb7))
    clear ho7 hb7)
  go_wp2_with (
    go_at_call 32
    refine (strokes_any w.heap.size 5 w7 c8).mono ?_
    rintro e w8 ⟨rfl, rfl⟩)
  have h7z := H7.out.2.size
  have hb8 : Below w8.heap.size w8 ((w8.alloc (.cells #[.int .i64 0] 3)).alloc (.cells #[.int .i64 1, .slice (some ⟨w8.heap.size, 0, none⟩) 1 1] 91)) := ((Below.refl _ _).alloc (Nat.le_refl _) _).alloc (by simp) _
  have h8p := hp_lt H7.out.1.file.blk
  have h8d := hp_lt H7.out.1.disk
  have hcr := crash_one (H7.out.1.below hb8) (by simp; omega) (by omega) (w8.heap.size + 1) w8.heap.size (by simp [go_sem]) (by simp [go_sem]) (by simp [go_sem]) (by omega) (by decide) (by decide) (by decide) hnm
  have HCR := hid hcr
  have HB8 := hid hb8
  clear hcr hb8
  go_wp2_with (
    go_at_call 28
    refine HCR.out.mono ?_
    rintro e w9 ⟨X, cap, Y, D, L9, N9, F9, sf9, k19, k29, vs9, vd9, vf9, cM9, bM9, rfl, hx0, hx1, hOY, hD, ho9, hb9⟩
    have H9 := hid (And.intro hx0 (And.intro hx1 (And.intro hOY (And.intro hD (And.intro ho9 ((H7.out.2.trans (HB8.out.mono h7z)).trans hb9))))))
    clear hx0 hx1 hOY hD ho9 hb9)
  have hDl : D.length = 24 := by rw [H9.out.2.2.2.1]; decide
  have hrd := read_one H9.out.2.2.2.2.1 hok hnm (by omega) (by omega) (by rw [hDl]; omega)
  rw [hDl] at hrd
  have HRD := hid hrd
  have HDL := hid hDl
  clear hrd hDl
  go_wp2_with (
    go_at_call 15
    refine HRD.out.mono ?_
    rintro e w10 ⟨Y2, rfl, hO2, hc10, hY2, hk10⟩
    obtain ⟨hx0, hx1, hOY, hD, ho9, hb9⟩ := H9.out
    have hXd : X ≠ w.heap.size := by
      intro e
      have := ho9.disk.cells.1
      rw [← e, hx0] at this
      cases this
    have hYd : Y ≠ w.heap.size := hp_ne hOY ho9.disk (by simp)
    have y1 : w10.cell? ⟨X, 1, none⟩ = some (.slice (some ⟨Y, 0, none⟩) 24 24) := hk10.cell hx1 (by simpa using hXd)
    have y2 : w10.cell? ⟨Y, 4, none⟩ = some (.int .u8 7) := by
      have h := hp_kept hOY hk10 (by simpa using hYd)
      rw [cell_of_row w10 Y 4 _ _ _ h]
      rfl
    have ez : D = [5, 5, 5, 5, 0, 0, 0, 0, 0, 0, 0, 0, 0, 0, 0, 0, 7, 7, 7, 7, 7, 7, 7, 7] := by rw [hD]; decide
    have hO3 := hO2
    rw [ez] at hO3
    have z3 : w10.cell? ⟨Y2, 3, none⟩ = some (.int .u8 5) := by rw [cell_of_row w10 Y2 3 _ _ _ hO3]; rfl
    have z4 : w10.cell? ⟨Y2, 4, none⟩ = some (.int .u8 0) := by rw [cell_of_row w10 Y2 4 _ _ _ hO3]; rfl
    have z15 : w10.cell? ⟨Y2, 15, none⟩ = some (.int .u8 0) := by rw [cell_of_row w10 Y2 15 _ _ _ hO3]; rfl
    have z16 : w10.cell? ⟨Y2, 16, none⟩ = some (.int .u8 7) := by rw [cell_of_row w10 Y2 16 _ _ _ hO3]; rfl
    have hbF : Below w.heap.size w w10 := hb9.trans (hk10.below hb9.size (fun k hk e => by omega))
    have HBF := hid hbF
    clear hx0 hx1 hOY hD ho9 hb9 hO2 hO3 hY2 hk10 hXd hYd ez hbF)
  go_wp2_with (
    go_at_call 33
    refine (reads_any w.heap.size 1 w10 hc10).mono ?_
    rintro e w11 ⟨rfl, rfl⟩)
  go_ret
  exact ⟨rfl, HBF.out⟩

end Go.Proofs.YtlmompdfombgeaaGreat

namespace Go.Proofs.YtlmompdfombgeaaGreat
open Go.RowKit Go.MapKept

/-- The document's disk without a file. -/
def RefZ (w : World) (r : Nat) (room files : Int) : Prop := w.heap[r]? = some (.cells #[.int .i64 room, .int .i64 files, .int .i64 0, .slice none 0 0, .slice none 0 0, .slice none 0 0, .slice none 0 0, .slice none 0 0, .int .i64 0, .int .i64 0, .bool false] 58 (0, 0))

theorem RefZ.cells {w : World} {r : Nat} {room files : Int} (h : RefZ w r room files) : w.cell? ⟨r, 3, none⟩ = some (.slice none 0 0) ∧ w.cell? ⟨r, 4, none⟩ = some (.slice none 0 0) ∧ w.cell? ⟨r, 5, none⟩ = some (.slice none 0 0) ∧ w.cell? ⟨r, 8, none⟩ = some (.int .i64 0) ∧ w.cell? ⟨r, 9, none⟩ = some (.int .i64 0) ∧ w.cell? ⟨r, 10, none⟩ = some (.bool false) := by
  unfold RefZ at h
  refine ⟨?_, ?_, ?_, ?_, ?_, ?_⟩ <;> (rw [cell_of_row w r _ _ _ _ h]; rfl)

set_option maxRecDepth 100000 in
set_option maxHeartbeats 800000 in
theorem rnew_ok (room files : Int) (w : World) (h0 : 0 ≤ room) (h1 : room ≤ 4194304) (h2 : 0 ≤ files) (h3 : files ≤ 512) :
    Calls Tryz.prog 10 #[.int .i64 room, .int .i64 files] w fun x w' => x = .returned (.tuple #[.pointer (some ⟨w.heap.size, 0, none⟩), .int .i64 0]) ∧ RefZ w' w.heap.size room files ∧ Below w.heap.size w w' := by
  go_enter Tryz.func10, Tryz.ntmps10
  go_wp2
  go_ret2
  exact ⟨rfl, hp_new _ _, (Below.refl _ _).alloc (Nat.le_refl _) _⟩

set_option maxRecDepth 100000 in
theorem nil_texts (w : World) : Calls Tryz.prog 44 #[.slice none 0 0, .slice none 0 0] w fun x w' => x = .returned (.bool true) ∧ w' = w := by
  go_enter Tryz.func44, Tryz.ntmps44
  go_wp2
  refine wp_loop_rounds 1 ?_
  rw [rounds_succ]
  go_wp2
  go_ret
  exact ⟨rfl, rfl⟩

section
variable {B : Nat} {w : World} {d L Nb Fb : Nat} {room limit : Int} {st rd : Int} {cL cN cF : Nat}

end
end Go.Proofs.YtlmompdfombgeaaGreat

namespace Go.Proofs.YtlmompdfombgeaaGreat
open Go.RowKit Go.MapKept

theorem RefZ.below {w w' : World} {r : Nat} {room files : Int} (h : RefZ w r room files) (hk : Below w.heap.size w w') : RefZ w' r room files := hp_below h hk (hp_lt h)

set_option maxRecDepth 100000 in
theorem off_any (d : Nat) (b : Bool) (w : World) (h : w.cell? ⟨d, 7, none⟩ = some (.bool b)) : Calls Tryz.prog 31 #[.pointer (some ⟨d, 0, none⟩)] w fun x w' => x = .returned (.bool b) ∧ w' = w := by
  go_enter Tryz.func31, Tryz.ntmps31
  go_wp2
  go_ret
  exact ⟨rfl, rfl⟩

set_option maxRecDepth 100000 in
theorem roff_any (d : Nat) (b : Bool) (w : World) (h : w.cell? ⟨d, 10, none⟩ = some (.bool b)) : Calls Tryz.prog 48 #[.pointer (some ⟨d, 0, none⟩)] w fun x w' => x = .returned (.bool b) ∧ w' = w := by
  go_enter Tryz.func48, Tryz.ntmps48
  go_wp2
  go_ret
  exact ⟨rfl, rfl⟩

set_option maxRecDepth 100000 in
theorem rstrokes_any (d : Nat) (n : Int) (w : World) (h : w.cell? ⟨d, 8, none⟩ = some (.int .i64 n)) : Calls Tryz.prog 49 #[.pointer (some ⟨d, 0, none⟩)] w fun x w' => x = .returned (.int .i64 n) ∧ w' = w := by
  go_enter Tryz.func49, Tryz.ntmps49
  go_wp2
  go_ret
  exact ⟨rfl, rfl⟩

set_option maxRecDepth 100000 in
theorem rreads_any (d : Nat) (n : Int) (w : World) (h : w.cell? ⟨d, 9, none⟩ = some (.int .i64 n)) : Calls Tryz.prog 50 #[.pointer (some ⟨d, 0, none⟩)] w fun x w' => x = .returned (.int .i64 n) ∧ w' = w := by
  go_enter Tryz.func50, Tryz.ntmps50
  go_wp2
  go_ret
  exact ⟨rfl, rfl⟩

set_option maxRecDepth 100000 in
set_option maxHeartbeats 1600000 in
theorem new_no (room files : Int) (w : World) (h : ¬ (0 ≤ room ∧ room ≤ 4194304 ∧ 0 ≤ files ∧ files ≤ 512)) :
    Calls Tryz.prog 9 #[.int .i64 room, .int .i64 files] w fun x w' => x = .returned (.tuple #[.pointer none, .int .i64 1]) ∧ w' = w := by
  by_cases a : room < 0
  · go_enter Tryz.func9, Tryz.ntmps9
    go_wp2
    go_ret2
    exact ⟨rfl, rfl⟩
  · by_cases b : 4194304 < room
    · go_enter Tryz.func9, Tryz.ntmps9
      go_wp2
      go_ret2
      exact ⟨rfl, rfl⟩
    · by_cases c : files < 0
      · go_enter Tryz.func9, Tryz.ntmps9
        go_wp2
        go_ret2
        exact ⟨rfl, rfl⟩
      · have d : 512 < files := by omega
        go_enter Tryz.func9, Tryz.ntmps9
        go_wp2
        go_ret2
        exact ⟨rfl, rfl⟩

set_option maxRecDepth 100000 in
set_option maxHeartbeats 1600000 in
theorem rnew_no (room files : Int) (w : World) (h : ¬ (0 ≤ room ∧ room ≤ 4194304 ∧ 0 ≤ files ∧ files ≤ 512)) :
    Calls Tryz.prog 10 #[.int .i64 room, .int .i64 files] w fun x w' => x = .returned (.tuple #[.pointer none, .int .i64 1]) ∧ w' = w := by
  by_cases a : room < 0
  · go_enter Tryz.func10, Tryz.ntmps10
    go_wp2
    go_ret2
    exact ⟨rfl, rfl⟩
  · by_cases b : 4194304 < room
    · go_enter Tryz.func10, Tryz.ntmps10
      go_wp2
      go_ret2
      exact ⟨rfl, rfl⟩
    · by_cases c : files < 0
      · go_enter Tryz.func10, Tryz.ntmps10
        go_wp2
        go_ret2
        exact ⟨rfl, rfl⟩
      · have d : 512 < files := by omega
        go_enter Tryz.func10, Tryz.ntmps10
        go_wp2
        go_ret2
        exact ⟨rfl, rfl⟩

end Go.Proofs.YtlmompdfombgeaaGreat

namespace Go.Proofs.YtlmompdfombgeaaGreat
open Go.RowKit Go.MapKept

/-- The document's zero disk, its block. -/
def RB (w : World) (r : Nat) (sv rv : Value) (cs : Int) (off : Bool) : Prop := w.heap[r]? = some (.cells #[.int .i64 0, .int .i64 0, .int .i64 0, .slice none 0 0, .slice none 0 0, .slice none 0 0, sv, rv, .int .i64 cs, .int .i64 0, .bool off] 58 (0, 0))

theorem RB.cells {w : World} {r : Nat} {sv rv : Value} {cs : Int} {off : Bool} (h : RB w r sv rv cs off) : w.cell? ⟨r, 0, none⟩ = some (.int .i64 0) ∧ w.cell? ⟨r, 1, none⟩ = some (.int .i64 0) ∧ w.cell? ⟨r, 2, none⟩ = some (.int .i64 0) ∧ w.cell? ⟨r, 3, none⟩ = some (.slice none 0 0) ∧ w.cell? ⟨r, 4, none⟩ = some (.slice none 0 0) ∧ w.cell? ⟨r, 5, none⟩ = some (.slice none 0 0) ∧ w.cell? ⟨r, 6, none⟩ = some sv ∧ w.cell? ⟨r, 7, none⟩ = some rv ∧ w.cell? ⟨r, 8, none⟩ = some (.int .i64 cs) ∧ w.cell? ⟨r, 9, none⟩ = some (.int .i64 0) ∧ w.cell? ⟨r, 10, none⟩ = some (.bool off) := by
  unfold RB at h
  refine ⟨?_, ?_, ?_, ?_, ?_, ?_, ?_, ?_, ?_, ?_, ?_⟩ <;> (rw [cell_of_row w r _ _ _ _ h]; rfl)

theorem RB.free {w : World} {r : Nat} {sv rv : Value} {cs : Int} {off : Bool} (h : RB w r sv rv cs off) : ∀ o, w.frozen? ⟨r, o, none⟩ = false := fun _o => free_of_block h

set_option maxRecDepth 100000 in
set_option maxHeartbeats 1000000 in
theorem risName_any (s : ByteArray) (w : World) (hs : s.size ≤ maxLen) : Calls Tryz.prog 108 #[.string s] w fun x w' => x = .returned (.bool (nmOK s)) ∧ w' = w := by
  unfold maxLen at hs
  obtain ⟨r, hr⟩ : ∃ r, r = nmOK s := ⟨_, rfl⟩
  rw [← hr]
  have HR := hid hr
  clear hr
  go_enter Tryz.func108, Tryz.ntmps108
  go_wp2
  go_loop [3] (fun i => ∃ k : Nat, k ≤ s.size ∧ i = .int .i64 k ∧ Hid ((s.data.toList.take k).all (fun c => decide (33 ≤ c.toNat) && decide (c.toNat ≤ 126)) = true)) (fun i => s.size - (intOf i).toNat)
  case atStart => exact ⟨0, Nat.zero_le _, rfl, hid (by simp)⟩
  case round =>
    obtain ⟨k, hk, rfl, hall⟩ := hrel
    by_cases hlt : k < s.size
    · by_cases hgo : 33 ≤ s[k].toNat ∧ s[k].toNat ≤ 126
      · obtain ⟨g1, g2⟩ := hgo
        have HN := hid (show (s.data.toList.take (k + 1)).all (fun c => decide (33 ≤ c.toNat) && decide (c.toNat ≤ 126)) = true by rw [take_snocB s k hlt, List.all_append, hall.out]; simp [g1, g2])
        have j1 : ¬ ((s[k].toNat : Int) < 33) := by omega
        have j2 : ¬ (126 < (s[k].toNat : Int)) := by omega
        go_wp2
        go_round
        case rel => exact ⟨k + 1, by omega, by go_num, HN⟩
        case measure => simp [intOf]; omega
      · have Hr := hid (show nmOK s = false by
          have hm : s[k] ∈ s.data.toList := by
            have : s[k] ∈ s.data.toList.take (k + 1) := by rw [take_snocB s k hlt]; simp
            exact List.mem_of_mem_take this
          have hf : s.data.toList.all (fun c => decide (33 ≤ c.toNat) && decide (c.toNat ≤ 126)) = false := by
            rw [Bool.eq_false_iff]
            intro h
            have := List.all_eq_true.1 h _ hm
            simp at this
            exact hgo this
          simp [nmOK, hf])
        by_cases j1 : (s[k].toNat : Int) < 33
        · go_wp2
          go_ret
          exact ⟨by rw [HR.out, Hr.out]; rfl, rfl⟩
        · have j2 : 126 < (s[k].toNat : Int) := by omega
          go_wp2
          go_ret
          exact ⟨by rw [HR.out, Hr.out]; rfl, rfl⟩
    · have hq := hid (show nmOK s = (decide (1 ≤ s.size) && decide (s.size ≤ 40)) by
        have := hall.out
        rw [List.take_of_length_le (by simp; omega)] at this
        simp only [nmOK, this, Bool.and_true])
      by_cases h1 : (1 : Int) ≤ s.size
      · by_cases h2 : (s.size : Int) ≤ 40
        · have Hr := hid (show nmOK s = true by rw [hq.out]; simp; omega)
          go_wp2
          go_ret
          exact ⟨by rw [HR.out, Hr.out]; rfl, rfl⟩
        · have Hr := hid (show nmOK s = false by rw [hq.out]; simp; omega)
          go_wp2
          go_ret
          exact ⟨by rw [HR.out, Hr.out]; rfl, rfl⟩
      · have Hr := hid (show nmOK s = false by rw [hq.out]; simp; omega)
        go_wp2
        go_ret
        exact ⟨by rw [HR.out, Hr.out]; rfl, rfl⟩

section
variable {w : World} {r : Nat} {sv rv : Value} {cs : Int} {off : Bool}

end

section
variable {w : World} {r : Nat} {fs : List (Int × Int)} {cs : Int} {off : Bool}

end
end Go.Proofs.YtlmompdfombgeaaGreat
