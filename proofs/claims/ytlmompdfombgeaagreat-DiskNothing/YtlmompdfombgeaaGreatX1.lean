import Derived.Test.YtlmompdfombgeaaGreatT1
namespace Go.Proofs.YtlmompdfombgeaaGreat
open Go.RowKit Go.MapKept

set_option maxRecDepth 100000 in
set_option maxHeartbeats 800000 in
theorem crash1_any (xw M cM bM : Nat) (v : Value) (w : World) (hx : w.cell? ⟨xw, 0, none⟩ = some (.map (some M))) (hM : w.heap[M]? = some (.map #[{ key := .int .i64 1, val := v, born := bM }] cM)) :
    Calls Tryz.prog 97 #[.int .i64 1, .pointer (some ⟨xw, 0, none⟩)] w fun x w' => x = .returned v ∧ w' = w := by
  have hl := look_found (w := w) Tryz.underlying131 Tryz.underlying3 hM (key_int 1) (show Instr.findNow (.int .i64) (.int .i64 1) _ 0 = some (some (0, v)) by simp [Instr.findNow, Instr.sameNow]) false
  simp only [Bool.false_eq_true, if_false] at hl
  clear hM
  go_enter Tryz.func97, Tryz.ntmps97
  go_wp2
  go_ret
  exact ⟨rfl, rfl⟩

set_option maxRecDepth 100000 in
set_option maxHeartbeats 800000 in
theorem newTally_nil (w : World) : Calls Tryz.prog 75 #[.slice none 0 0] w fun x w' => ∃ m, x = .returned (.agg #[.int .i64 0, .map (some m)]) ∧ w'.heap[m]? = some (.map #[] 0) ∧ w.heap.size ≤ m ∧ Below w.heap.size w w' := by
  have hmm := @run_makeMap Tryz.prog
  go_enter Tryz.func75, Tryz.ntmps75
  go_wp2
  refine wp_loop_rounds 1 ?_
  rw [rounds_succ]
  go_wp2
  refine bodyPost_ret (v := .agg #[.int .i64 0, .map (some (w.heap.size + 1))]) (by simp [results, Tryz.results75, go_sem]) rfl ⟨w.heap.size + 1, rfl, ?_, by omega, ?_⟩
  · have := hp_new (w.alloc (.cells #[.int .i64 0, .map (some (w.heap.size + 1))] 51)) (.map #[] 0)
    simpa using this
  · exact ((Below.refl _ _).alloc (Nat.le_refl _) _).alloc (by simp) _

set_option maxRecDepth 100000 in
set_option maxHeartbeats 1600000 in
theorem plan_none (d : Nat) (w : World) (room limit : Int) (L : Value) (made : Int) (N F vn : Value) (off : Bool) (st : Int) (k1 : Value) (rd : Int) (k2 : Value) (hD : DiskB w d room limit L made N F vn off st k1 rd k2) :
    Calls Tryz.prog 19 #[.pointer (some ⟨d, 0, none⟩), .agg #[.slice none 0 0, .slice none 0 0]] w fun x w' => x = .returned (.tuple #[]) ∧ ∃ m1 m2, DiskB w' d room limit L made N F vn off 0 (.map (some m1)) 0 (.map (some m2)) ∧ w'.heap[m1]? = some (.map #[] 0) ∧ w'.heap[m2]? = some (.map #[] 0) ∧ w.heap.size ≤ m1 ∧ w.heap.size ≤ m2 ∧ Kept (fun k => k = d) w w' := by
  obtain ⟨c0, c1, c2, c3, c4, c5, c6, c7, c8, c9, c10, c11⟩ := hD.cells
  have ff := hD.free
  have hdl := hp_lt hD
  have HD := hid hD
  clear hD c0 c1 c2 c3 c4 c5 c6 c7
  go_enter Tryz.func19, Tryz.ntmps19
  go_wp2_with (
    go_at_call 75
    refine (newTally_nil _).mono ?_
    rintro e w1 ⟨m1, rfl, hm1, hg1, hb1⟩
    have hd1 := (show DiskB w1 d room limit L made N F vn off st k1 rd k2 from hp_below (hp_alloc HD.out _) hb1 (by simp; omega))
    obtain ⟨-, -, -, -, -, -, -, -, x8, x9, x10, x11⟩ := hd1.cells
    have xf := hd1.free
    have bx0 := hb1.cell (p := ⟨w.heap.size, 0, none⟩) (by simp)
    have bx1 := hb1.cell (p := ⟨w.heap.size, 1, none⟩) (by simp)
    have hzz : w.heap.size < w1.heap.size := (by have := hb1.size; simp at this; omega)
    have H1 := hid (And.intro hd1 (And.intro hm1 (And.intro hg1 hb1)))
    clear hd1 hm1 hg1 hb1)
  have hd3 : DiskB ((w1.setCell ⟨d, 8, none⟩ (.int .i64 0)).setCell ⟨d, 9, none⟩ (.map (some m1))) d room limit L made N F vn off 0 (.map (some m1)) rd k2 := set_block (i := 9) (set_block (i := 8) H1.out.1 _) _
  obtain ⟨W, hW⟩ : ∃ W, W = (w1.setCell ⟨d, 8, none⟩ (.int .i64 0)).setCell ⟨d, 9, none⟩ (.map (some m1)) := ⟨_, rfl⟩
  rw [← hW] at hd3 ⊢
  have hkW : Kept (fun k => k = d) w1 W := by
    rw [hW]
    exact ((Kept.refl (fun k => k = d) w1).setCell (p := ⟨d, 8, none⟩) (fun _ => rfl) _).setCell (p := ⟨d, 9, none⟩) (fun _ => rfl) _
  have HW := hid (And.intro hd3 hkW)
  clear hW hd3 hkW
  go_wp2_with (
    go_at_call 75
    refine (newTally_nil _).mono ?_
    rintro e w2 ⟨m2, rfl, hm2, hg2, hb2⟩
    have hd2 := (show DiskB w2 d room limit L made N F vn off 0 (.map (some m1)) rd k2 from hp_below HW.out.1 hb2 (hp_lt HW.out.1))
    obtain ⟨-, -, -, -, -, -, -, -, y8, y9, y10, y11⟩ := hd2.cells
    have yf := hd2.free
    have H2 := hid (And.intro hd2 (And.intro hm2 (And.intro hg2 hb2)))
    clear hd2 hm2 hg2 hb2)
  go_end0
  obtain ⟨hd1, hm1, hg1, hb1⟩ := H1.out
  obtain ⟨hd2, hm2, hg2, hb2⟩ := H2.out
  obtain ⟨hd3, hkW⟩ := HW.out
  have hz1 := hb1.size
  have hz2 := hkW.size
  simp at hz1 hg1
  have K3 : Kept (fun k => k = d) w2 ((w2.setCell ⟨d, 10, none⟩ (.int .i64 0)).setCell ⟨d, 11, none⟩ (.map (some m2))) := ((Kept.refl (fun k => k = d) w2).setCell (p := ⟨d, 10, none⟩) (fun _ => rfl) _).setCell (p := ⟨d, 11, none⟩) (fun _ => rfl) _
  refine ⟨rfl, m1, m2, set_block (i := 11) (set_block (i := 10) hd2 _) _, ?_, ?_, by omega, by omega, ?_⟩
  · exact hp_kept (hp_below (hp_kept hm1 hkW (by omega)) hb2 (by have := hp_lt hm1; omega)) K3 (by omega)
  · exact hp_kept hm2 K3 (by omega)
  · have k1 : Kept (fun _ => False) w w1 := ((Kept.refl (fun _ => False) w).alloc _).trans (Kept.ofBelow hb1) (fun _ _ e => e)
    exact (((k1.mono (S' := fun k => k = d) (fun _ _ e => e.elim)).trans hkW (fun _ _ e => e)).trans (Kept.ofBelow hb2) (fun _ _ e => e.elim)).trans K3 (fun _ _ e => e)

end Go.Proofs.YtlmompdfombgeaaGreat
