import Derived.Test.YtlmompdfombgeaaGreatZa
namespace Go.Proofs.YtlmompdfombgeaaGreat
open Go.RowKit Go.MapKept

theorem NoKinds.below {w w' : World} {k : Value} (h : NoKinds w k) (hk : Below w.heap.size w w') : NoKinds w' k := h.kept (Kept.ofBelow hk) (fun _ _ _ e => e)
theorem KF.below {w w' : World} {k : Value} {fs : List (Int × Int)} (h : KF w k fs) (hk : Below w.heap.size w w') : KF w' k fs := h.kept (Kept.ofBelow hk) (fun _ _ _ _ e => e)

theorem making_nk (d : Nat) (L : Value) (w : World) (c2 : w.cell? ⟨d, 2, none⟩ = some L) (h : NoKinds w L) : Calls Tryz.prog 73 #[.pointer (some ⟨d, 0, none⟩)] w fun e w' => e = .returned (.slice none 0 0) ∧ Below w.heap.size w w' := by
  rcases h with rfl | ⟨b, c, rfl, hb⟩
  · exact making_nil d w c2
  · exact making_zero d b c w c2 hb

set_option maxRecDepth 100000 in
set_option maxHeartbeats 1000000 in
theorem held_nil (w : World) : Calls Tryz.prog 74 #[.map none] w fun x w' => x = .returned (.tuple #[.int .i64 0, .int .i64 0]) ∧ Below w.heap.size w w' := by
  have hr := run_range_nilMap (P := Tryz.prog) w 46 3 100 Tryz.underlying46
  have hn1 : ∀ ty, (Instr.next (.pointer (some ⟨w.heap.size, 0, none⟩)) false ty).run Tryz.prog (w.alloc (.mapIter none 0 #[] 0)) = _ := fun ty => run_next_nilMap w ty 0 0 #[]
  have hlen := fun ty => NoKinds.len (w := w.alloc (.mapIter none 0 #[] 0)) (.inl rfl) ty
  go_enter Tryz.func74, Tryz.ntmps74
  go_wp2
  refine wp_loop_rounds 1 ?_
  rw [rounds_succ]
  go_wp2
  go_ret2
  exact ⟨rfl, (Below.refl _ _).alloc (Nat.le_refl _) _⟩

theorem held_nk (L : Value) (w : World) (h : NoKinds w L) : Calls Tryz.prog 74 #[L] w fun x w' => x = .returned (.tuple #[.int .i64 0, .int .i64 0]) ∧ Below w.heap.size w w' := by
  rcases h with rfl | ⟨b, c, rfl, hb⟩
  · exact held_nil w
  · exact held_none b c w hb

set_option maxRecDepth 100000 in
set_option maxHeartbeats 1600000 in
theorem told_nil (fn : Nat) (lb : Array Value) (w : World) :
    Calls Tryz.prog 96 #[.map none, .func (.func fn) #[] lb] w fun x w' => x = .returned (.slice none 0 0) ∧ Below w.heap.size w w' := by
  go_enter Tryz.func96, Tryz.ntmps96
  go_wp2_with (
    go_at_call 72
    refine (sorted_nil w).mono ?_
    rintro e w1 ⟨rfl, hb1⟩
    have HB1 := hid hb1
    clear hb1)
  refine wp_loop_rounds 1 ?_
  rw [rounds_succ]
  go_wp2
  go_ret
  exact ⟨rfl, HB1.out⟩

set_option maxRecDepth 100000 in
set_option maxHeartbeats 1600000 in
theorem reached_nil (d : Nat) (w : World) : Calls Tryz.prog 91 #[.pointer (some ⟨d, 0, none⟩), .map none] w fun x w' => x = .returned (.map (some w.heap.size)) ∧ w'.heap[w.heap.size]? = some (.map #[] 0) ∧ Below w.heap.size w w' := by
  have hmm := @run_makeMap Tryz.prog
  have hr := run_range_nilMap (P := Tryz.prog) (w.alloc (.map #[] 0)) 47 9 3 Tryz.underlying47
  have hn1 : ∀ ty, (Instr.next (.pointer (some ⟨(w.alloc (.map #[] 0)).heap.size, 0, none⟩)) false ty).run Tryz.prog ((w.alloc (.map #[] 0)).alloc (.mapIter none 0 #[] 0)) = _ := fun ty => run_next_nilMap _ ty 0 0 #[]
  have es : (w.alloc (.map #[] 0)).heap.size = w.heap.size + 1 := by simp
  rw [es] at hr hn1
  clear es
  go_enter Tryz.func91, Tryz.ntmps91
  go_wp2
  refine wp_loop_rounds 1 ?_
  rw [rounds_succ]
  go_wp2
  go_ret
  exact ⟨rfl, hp_alloc (hp_new _ _) _, ((Below.refl _ _).alloc (Nat.le_refl _) _).alloc (by simp) _⟩

section
variable {w : World} {d : Nat} {off : Bool} {cs : Int} {fs : List (Int × Int)}

set_option maxRecDepth 100000 in
set_option maxHeartbeats 1600000 in
theorem settle_z (h : ZD w d off cs fs) : Calls Tryz.prog 86 #[.pointer (some ⟨d, 0, none⟩), .map none] w fun x w' => x = .returned (.tuple #[]) ∧ ZD w' d off cs fs ∧ Kept (fun k => k = d) w w' := by
  obtain ⟨L, k1, k2, hd, hL, hk⟩ := h
  obtain ⟨c0, c1, c2, c3, c4, c5, c6, c7, c8, c9, c10, c11⟩ := hd.cells
  have ff := hd.free
  have hdl := hp_lt hd
  have hmp : ∀ b es c, w.heap[b]? = some (.map es c) → ¬ b = d := fun b es c hb e => by subst e; exact hp_ne hd hb (by simp) rfl
  have hk3 : Kept (fun k => k = d) w (((w.setCell ⟨d, 4, none⟩ (.map none)).setCell ⟨d, 5, none⟩ (.map none)).setCell ⟨d, 6, none⟩ (.slice none 0 0)) :=
    (((Kept.refl (fun k => k = d) w).setCell (p := ⟨d, 4, none⟩) (fun _ => rfl) _).setCell (p := ⟨d, 5, none⟩) (fun _ => rfl) _).setCell (p := ⟨d, 6, none⟩) (fun _ => rfl) _
  have hD3 : DiskB (((w.setCell ⟨d, 4, none⟩ (.map none)).setCell ⟨d, 5, none⟩ (.map none)).setCell ⟨d, 6, none⟩ (.slice none 0 0)) d 0 0 L 0 (.map none) (.map none) (.slice none 0 0) off cs k1 0 k2 :=
    set_block (i := 6) (set_block (i := 5) (set_block (i := 4) hd _) _) _
  have HI := hid (And.intro hk3 (And.intro hD3 (And.intro hk hmp)))
  clear hd hL hk hmp hk3 hD3
  go_enter Tryz.func86, Tryz.ntmps86
  go_wp2_with (first
    | (go_at_call 90
       refine (mapsClone_nil _).mono ?_
       rintro e w1 ⟨rfl, e1⟩
       rw [e1]
       clear e1 w1)
    | (go_at_call 91
       refine (reached_nil d _).mono ?_
       rintro e w2 ⟨rfl, hm2, hb2⟩
       have hd2 := (show DiskB w2 d 0 0 L 0 (.map none) (.map none) (.slice none 0 0) off cs k1 0 k2 from hp_below HI.out.2.1 hb2 (hp_lt HI.out.2.1))
       obtain ⟨-, -, y2, -⟩ := hd2.cells
       have yf := hd2.free
       have HB2 := hid (And.intro hd2 (And.intro hm2 hb2))
       clear hd2 hm2 hb2))
  go_end0
  obtain ⟨hk3, hD3, hk, hmp⟩ := HI.out
  obtain ⟨hd2, hm2, hb2⟩ := HB2.out
  have es : (((w.setCell ⟨d, 4, none⟩ (.map none)).setCell ⟨d, 5, none⟩ (.map none)).setCell ⟨d, 6, none⟩ (.slice none 0 0)).heap.size = w.heap.size := by simp [World.setCell]
  have hkA : Kept (fun k => k = d) w w2 := hk3.trans (Kept.ofBelow hb2) (fun _ _ e => e.elim)
  rw [es] at hm2
  have hkB : Kept (fun k => k = d) w (w2.setCell ⟨d, 2, none⟩ (.map (some w.heap.size))) := hkA.setCell (p := ⟨d, 2, none⟩) (fun _ => rfl) _
  exact ⟨rfl, ⟨_, k1, k2, set_block (i := 2) hd2 _, .inr ⟨_, _, rfl, hp_set hm2 (p := ⟨d, 2, none⟩) (by dsimp only; omega) _⟩, hk.kept hkB hmp⟩, hkB⟩

set_option maxRecDepth 100000 in
set_option maxHeartbeats 1600000 in
theorem plan_z (h : ZD w d off cs fs) (sv rv : Value) (gs gr : List (Int × Int)) (h1 : Fl w sv gs) (h2 : Fl w rv gr) (l1 : gs.length ≤ 300) (l2 : gr.length ≤ 300) (n1 : sv.ownBlock ≠ some d) (n2 : rv.ownBlock ≠ some d) :
    Calls Tryz.prog 19 #[.pointer (some ⟨d, 0, none⟩), .agg #[sv, rv]] w fun x w' => x = .returned (.tuple #[]) ∧ ZD w' d off 0 gs ∧ Kept (fun k => k = d) w w' := by
  obtain ⟨ao, cp, rfl, hc1, hc2⟩ := h1.shape
  obtain ⟨ar, cr, rfl, hc3, hc4⟩ := h2.shape
  obtain ⟨L, k1, k2, hd, hL, hk⟩ := h
  have hmp : ∀ b es c, w.heap[b]? = some (.map es c) → ¬ b = d := fun b es c hb e => by subst e; exact hp_ne hd hb (by simp) rfl
  obtain ⟨c0, c1, c2, c3, c4, c5, c6, c7, c8, c9, c10, c11⟩ := hd.cells
  have ff := hd.free
  have hdl := hp_lt hd
  have HD := hid (And.intro hd (And.intro hL (And.intro hmp (And.intro h1 h2))))
  clear hd c0 c1 c2 c3 c4 c5 c6 c7 hL hk hmp h1 h2
  have hb0 : Below w.heap.size w (w.alloc (.cells #[.slice ao gs.length cp, .slice ar gr.length cr] 38)) := (Below.refl _ _).alloc (Nat.le_refl _) _
  have HB0 := hid hb0
  clear hb0
  go_enter Tryz.func19, Tryz.ntmps19
  go_wp2_with (
    go_at_call 75
    (with_reducible show Calls _ _ #[.slice ao gs.length cp] _ _)
    refine (newTally_any _ gs _ (HD.out.2.2.2.1.below HB0.out) (by omega)).mono ?_
    rintro e w1 ⟨m1, es1, cc1, rfl, hm1, hkm1, hg1, hb1⟩
    have hd1 := (show DiskB w1 d 0 0 L 0 (.map none) (.map none) (.slice none 0 0) off cs k1 0 k2 from hp_below (hp_alloc HD.out.1 _) hb1 (by simp; omega))
    obtain ⟨-, -, -, -, -, -, -, -, x8, x9, x10, x11⟩ := hd1.cells
    have xf := hd1.free
    have bx0 := hb1.cell (p := ⟨w.heap.size, 0, none⟩) (by simp)
    have bx1 := hb1.cell (p := ⟨w.heap.size, 1, none⟩) (by simp)
    have hzz : w.heap.size < w1.heap.size := (by have := hb1.size; simp at this; omega)
    have H1 := hid (And.intro hd1 (And.intro hm1 (And.intro hkm1 (And.intro hg1 hb1))))
    clear hd1 hm1 hg1 hb1 hkm1)
  have hd3 : DiskB ((w1.setCell ⟨d, 8, none⟩ (.int .i64 0)).setCell ⟨d, 9, none⟩ (.map (some m1))) d 0 0 L 0 (.map none) (.map none) (.slice none 0 0) off 0 (.map (some m1)) 0 k2 := set_block (i := 9) (set_block (i := 8) H1.out.1 _) _
  obtain ⟨W, hW⟩ : ∃ W, W = (w1.setCell ⟨d, 8, none⟩ (.int .i64 0)).setCell ⟨d, 9, none⟩ (.map (some m1)) := ⟨_, rfl⟩
  rw [← hW] at hd3 ⊢
  have hkW : Kept (fun k => k = d) w1 W := by
    rw [hW]
    exact ((Kept.refl (fun k => k = d) w1).setCell (p := ⟨d, 8, none⟩) (fun _ => rfl) _).setCell (p := ⟨d, 9, none⟩) (fun _ => rfl) _
  have hrW : Fl W (.slice ar gr.length cr) gr := Rf.kept ((HD.out.2.2.2.2.below HB0.out).below H1.out.2.2.2.2) hkW (fun k hk e => n2 (by rw [hk, e]))
  have HW := hid (And.intro hd3 (And.intro hkW hrW))
  clear hW hd3 hkW hrW
  go_wp2_with (
    go_at_call 75
    (with_reducible show Calls _ _ #[.slice ar gr.length cr] _ _)
    refine (newTally_any _ gr W HW.out.2.2 (by omega)).mono ?_
    rintro e w2 ⟨m2, es2, cc2, rfl, hm2, hkm2, hg2, hb2⟩
    have hd2 := (show DiskB w2 d 0 0 L 0 (.map none) (.map none) (.slice none 0 0) off 0 (.map (some m1)) 0 k2 from hp_below HW.out.1 hb2 (hp_lt HW.out.1))
    obtain ⟨-, -, -, -, -, -, -, -, y8, y9, y10, y11⟩ := hd2.cells
    have yf := hd2.free
    have H2 := hid (And.intro hd2 (And.intro hm2 (And.intro hg2 hb2)))
    clear hd2 hm2 hg2 hb2 hkm2)
  go_end0
  obtain ⟨hd1, hm1, hkm1, hg1, hb1⟩ := H1.out
  obtain ⟨hd2, hm2, hg2, hb2⟩ := H2.out
  obtain ⟨hd3, hkW, -⟩ := HW.out
  have hz1 := hb1.size
  have hz2 := hkW.size
  simp at hz1 hg1
  have K3 : Kept (fun k => k = d) w2 ((w2.setCell ⟨d, 10, none⟩ (.int .i64 0)).setCell ⟨d, 11, none⟩ (.map (some m2))) := ((Kept.refl (fun k => k = d) w2).setCell (p := ⟨d, 10, none⟩) (fun _ => rfl) _).setCell (p := ⟨d, 11, none⟩) (fun _ => rfl) _
  have k1' : Kept (fun _ => False) w w1 := ((Kept.refl (fun _ => False) w).alloc _).trans (Kept.ofBelow hb1) (fun _ _ e => e)
  have KA : Kept (fun k => k = d) w ((w2.setCell ⟨d, 10, none⟩ (.int .i64 0)).setCell ⟨d, 11, none⟩ (.map (some m2))) := (((k1'.mono (S' := fun k => k = d) (fun _ _ e => e.elim)).trans hkW (fun _ _ e => e)).trans (Kept.ofBelow hb2) (fun _ _ e => e.elim)).trans K3 (fun _ _ e => e)
  refine ⟨rfl, ⟨L, .map (some m1), .map (some m2), set_block (i := 11) (set_block (i := 10) hd2 _) _, HD.out.2.1.kept KA (fun b c hb => HD.out.2.2.1 b _ c hb), .inr ⟨m1, es1, cc1, rfl, ?_, hkm1⟩⟩, KA⟩
  exact hp_kept (hp_below (hp_kept hm1 hkW (by omega)) hb2 (by have := hp_lt hm1; omega)) K3 (by omega)

end
end Go.Proofs.YtlmompdfombgeaaGreat
