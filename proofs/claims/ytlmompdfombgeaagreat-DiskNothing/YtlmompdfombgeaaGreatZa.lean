import Derived.Test.YtlmompdfombgeaaGreatFu
namespace Go.Proofs.YtlmompdfombgeaaGreat
open Go.RowKit Go.MapKept

/-- A map that tells these faults. -/
def KF (w : World) (k : Value) (fs : List (Int × Int)) : Prop := (k = .map none ∧ fs = []) ∨ ∃ b es c, k = .map (some b) ∧ w.heap[b]? = some (.map es c) ∧ KM es fs

theorem KF.look {w : World} {k : Value} {fs : List (Int × Int)} (h : KF w k fs) (n : Int) : (Instr.lookup 49 k (.int .i64 n) false).run Tryz.prog w = .ok (.int .i64 (fo fs n)) w := by
  rcases h with ⟨rfl, rfl⟩ | ⟨b, es, c, rfl, hb, hk⟩
  · exact look_nil Tryz.underlying49 Tryz.underlying3 (key_int n) (zero3 w) false
  · exact hk.look hb n

theorem KF.kept {w w' : World} {k : Value} {fs : List (Int × Int)} {S : Nat → Prop} (h : KF w k fs) (hk : Kept S w w') (hS : ∀ b es c, w.heap[b]? = some (.map es c) → ¬ S b) : KF w' k fs := by
  rcases h with h | ⟨b, es, c, rfl, hb, hm⟩
  · exact .inl h
  · exact .inr ⟨b, es, c, rfl, hp_kept hb hk (hS b es c hb), hm⟩

/-- The error of a fault. -/
def fe (k : Int) : Int := if k = 1 then 11 else if k = 2 then 10 else if k = 3 then 8 else 0

/-- A zero disk: nothing but the power, the strokes and the planned faults. -/
def ZD (w : World) (d : Nat) (off : Bool) (cs : Int) (fs : List (Int × Int)) : Prop :=
  ∃ L k1 k2, DiskB w d 0 0 L 0 (.map none) (.map none) (.slice none 0 0) off cs k1 0 k2 ∧ NoKinds w L ∧ KF w k1 fs

theorem ZD.kept {w w' : World} {d : Nat} {off : Bool} {cs : Int} {fs : List (Int × Int)} {S : Nat → Prop} (h : ZD w d off cs fs) (hk : Kept S w w') (hd : ¬ S d) (hS : ∀ b es c, w.heap[b]? = some (.map es c) → ¬ S b) : ZD w' d off cs fs := by
  obtain ⟨L, k1, k2, h1, h2, h3⟩ := h
  exact ⟨L, k1, k2, hp_kept h1 hk hd, h2.kept hk (fun b c hb => hS b _ c hb), h3.kept hk hS⟩

theorem ZD.below {w w' : World} {d : Nat} {off : Bool} {cs : Int} {fs : List (Int × Int)} (h : ZD w d off cs fs) (hk : Below w.heap.size w w') : ZD w' d off cs fs := h.kept (Kept.ofBelow hk) (fun e => e) (fun _ _ _ _ e => e)

theorem ZD.lt {w : World} {d : Nat} {off : Bool} {cs : Int} {fs : List (Int × Int)} (h : ZD w d off cs fs) : d < w.heap.size := by
  obtain ⟨L, k1, k2, h1, h2, h3⟩ := h
  exact hp_lt h1

/-- The document's zero disk. -/
def ZR (w : World) (r : Nat) (off : Bool) (cs : Int) (fs : List (Int × Int)) : Prop :=
  ∃ sv rv, w.heap[r]? = some (.cells #[.int .i64 0, .int .i64 0, .int .i64 0, .slice none 0 0, .slice none 0 0, .slice none 0 0, sv, rv, .int .i64 cs, .int .i64 0, .bool off] 58 (0, 0)) ∧ Fl w sv fs ∧ (∀ k, sv.ownBlock = some k → r < k) ∧ ∃ a n c, rv = .slice a n c

theorem ZR.kept {w w' : World} {r : Nat} {off : Bool} {cs : Int} {fs : List (Int × Int)} {S : Nat → Prop} (h : ZR w r off cs fs) (hk : Kept S w w') (hd : ¬ S r) (hS : ∀ b, r < b → ¬ S b) : ZR w' r off cs fs := by
  obtain ⟨sv, rv, h1, h2, h3⟩ := h
  exact ⟨sv, rv, hp_kept h1 hk hd, Rf.kept h2 hk (fun b hb => hS b (h3.1 b hb)), h3⟩

theorem ZR.below {w w' : World} {r : Nat} {off : Bool} {cs : Int} {fs : List (Int × Int)} (h : ZR w r off cs fs) (hk : Below w.heap.size w w') : ZR w' r off cs fs := h.kept (Kept.ofBelow hk) (fun e => e) (fun _ _ e => e)

/-- What a name's file answers on a disk without files. -/
def kE (off : Bool) (nm : ByteArray) : Int := if off then 11 else if nmOK nm then 6 else 5
/-- A stroke's answer, the power behind it, the strokes. -/
def snP (off : Bool) (cs : Int) (fs : List (Int × Int)) : Int × Bool × Int := if off then (11, true, cs) else (fe (fo fs (cs + 1)), decide (fo fs (cs + 1) = 1), cs + 1)
def crP (off : Bool) (nm : ByteArray) (cs : Int) (fs : List (Int × Int)) : Int × Bool × Int := if kE off nm = 6 then (if fe (fo fs (cs + 1)) = 0 then 9 else fe (fo fs (cs + 1)), decide (fo fs (cs + 1) = 1), cs + 1) else (kE off nm, off, cs)

theorem Kept.drewN {S : Nat → Prop} {a w : World} (h : Kept S a w) (n : Nat) : Kept S a (w.drewN n) := ⟨h.os, h.tape, h.output, h.size, h.block⟩

theorem NoKinds.len {w : World} {L : Value} (h : NoKinds w L) (ty : TypeId) : (Builtin.len_ #[46] ty #[L]).run Tryz.prog w = .ok (.int .i64 0) w := by
  rcases h with rfl | ⟨b, c, rfl, hb⟩
  · simp [Builtin.len_, run_underlying Tryz.underlying46, goInt]
  · simpa using len_map (w := w) Tryz.underlying46 hb ty

set_option maxRecDepth 100000 in
set_option maxHeartbeats 1000000 in
/-- A stroke that is counted, and its fault. -/
theorem count_z (d : Nat) (n : Int) (fs : List (Int × Int)) (w : World) (h : ZD w d false n fs) (hn0 : 0 ≤ n) (hn : n ≤ 1000000000) :
    Calls Tryz.prog 70 #[.pointer (some ⟨d, 0, none⟩), .pointer (some ⟨d, 8, none⟩)] w fun x w' => x = .returned (.int .i64 (fe (fo fs (n + 1)))) ∧ ZD w' d (decide (fo fs (n + 1) = 1)) (n + 1) fs ∧ Kept (fun k => k = d) w w' := by
  obtain ⟨L, k, k2, hd, hL, hk⟩ := h
  obtain ⟨-, -, -, -, -, -, -, c7, c8, c9, -, -⟩ := hd.cells
  have ff := hd.free
  have hmp : ∀ b es c, w.heap[b]? = some (.map es c) → ¬ b = d := fun b es c hb e => by subst e; exact hp_ne hd hb (by simp) rfl
  have hk2 : KF (w.setCell ⟨d, 8, none⟩ (.int .i64 (n + 1))) k fs := hk.kept (S := fun k => k = d) ((Kept.refl (fun k => k = d) w).setCell (p := ⟨d, 8, none⟩) (fun _ => rfl) _) hmp
  have hl : ∀ m, (Instr.lookup 49 k (.int .i64 (n + 1)) false).run Tryz.prog ((w.setCell ⟨d, 8, none⟩ (.int .i64 (n + 1))).drewN m) = .ok (.int .i64 (fo fs (n + 1))) ((w.setCell ⟨d, 8, none⟩ (.int .i64 (n + 1))).drewN m) := fun m => KF.look (w := (w.setCell ⟨d, 8, none⟩ (.int .i64 (n + 1))).drewN m) hk2 _
  have hr := fo_range fs (n + 1)
  obtain ⟨q, hq⟩ : ∃ q, q = fo fs (n + 1) := ⟨_, rfl⟩
  rw [← hq] at hr ⊢
  simp only [← hq] at hl
  have HZ := hid (And.intro hd (And.intro hL (And.intro hk hmp)))
  clear hq hd hL hk hk2 hmp
  have hcase : q = 0 ∨ q = 1 ∨ q = 2 ∨ q = 3 := by omega
  clear hr
  have fin : ∀ nq, ZD ((w.setCell ⟨d, 8, none⟩ (.int .i64 (n + 1))).drewN nq) d false (n + 1) fs ∧ Kept (fun k => k = d) w ((w.setCell ⟨d, 8, none⟩ (.int .i64 (n + 1))).drewN nq) := by
    intro nq
    obtain ⟨hd, hL, hk, hmp⟩ := HZ.out
    have K : Kept (fun k => k = d) w ((w.setCell ⟨d, 8, none⟩ (.int .i64 (n + 1))).drewN nq) := ((Kept.refl (fun k => k = d) w).setCell (p := ⟨d, 8, none⟩) (fun _ => rfl) _).drewN nq
    exact ⟨⟨L, k, k2, set_block (i := 8) hd _, hL.kept K (fun b c hb => hmp b _ c hb), hk.kept K hmp⟩, K⟩
  have fin1 : ∀ nq, ZD (((w.setCell ⟨d, 8, none⟩ (.int .i64 (n + 1))).setCell ⟨d, 7, none⟩ (.bool true)).drewN nq) d true (n + 1) fs ∧ Kept (fun k => k = d) w (((w.setCell ⟨d, 8, none⟩ (.int .i64 (n + 1))).setCell ⟨d, 7, none⟩ (.bool true)).drewN nq) := by
    intro nq
    obtain ⟨hd, hL, hk, hmp⟩ := HZ.out
    have K : Kept (fun k => k = d) w (((w.setCell ⟨d, 8, none⟩ (.int .i64 (n + 1))).setCell ⟨d, 7, none⟩ (.bool true)).drewN nq) := (((Kept.refl (fun k => k = d) w).setCell (p := ⟨d, 8, none⟩) (fun _ => rfl) _).setCell (p := ⟨d, 7, none⟩) (fun _ => rfl) _).drewN nq
    exact ⟨⟨L, k, k2, set_block (i := 7) (set_block (i := 8) hd _) _, hL.kept K (fun b c hb => hmp b _ c hb), hk.kept K hmp⟩, K⟩
  have F0 := hid fin
  have F1 := hid fin1
  clear fin fin1 HZ
  rcases hcase with rfl | rfl | rfl | rfl
  · go_enter Tryz.func70, Tryz.ntmps70
    go_wp2
    go_quiet (fail)
    go_wp2
    go_ret
    exact ⟨rfl, F0.out _⟩
  · go_enter Tryz.func70, Tryz.ntmps70
    go_wp2
    go_quiet (fail)
    go_wp2
    go_ret
    exact ⟨rfl, F1.out _⟩
  · go_enter Tryz.func70, Tryz.ntmps70
    go_wp2
    go_quiet (fail)
    go_wp2
    go_ret
    exact ⟨rfl, F0.out _⟩
  · go_enter Tryz.func70, Tryz.ntmps70
    go_wp2
    go_quiet (fail)
    go_wp2
    go_ret
    exact ⟨rfl, F0.out _⟩

set_option maxRecDepth 100000 in
set_option maxHeartbeats 1000000 in
theorem stroke_bad (d fn : Nat) (a b c fv : Value) (cap : Array Value) (r : Int) (w : World) (R1 R2 : World → Prop) (hr : (r == 0) = false) (_ha : a.cells = #[a]) (_hb : b.cells = #[b]) (_hc : c.cells = #[c])
    (hfind : Calls Tryz.prog 69 #[.pointer (some ⟨d, 0, none⟩), .agg #[a, b, c]] (w.alloc (.cells #[a, b, c] 104)) fun x w1 => x = .returned (.tuple #[fv, .int .i64 0]) ∧ R1 w1)
    (hcount : ∀ w1, R1 w1 → Calls Tryz.prog 70 #[.pointer (some ⟨d, 0, none⟩), .pointer (some ⟨d, 8, none⟩)] w1 fun x w2 => x = .returned (.int .i64 r) ∧ R2 w2) :
    Calls Tryz.prog 76 #[.pointer (some ⟨d, 0, none⟩), .agg #[a, b, c], .func (.func fn) #[] cap] w fun x w3 => x = .returned (.int .i64 r) ∧ R2 w3 := by
  have HF := hid hfind
  have HC := hid hcount
  clear hfind hcount
  go_enter Tryz.func76, Tryz.ntmps76
  go_wp2_with (first
    | (go_at_call 69; refine HF.out.mono ?_; rintro e w1 ⟨rfl, h1⟩; have H1 := hid h1; clear h1)
    | (go_at_call 70; refine (HC.out _ H1.out).mono ?_; rintro e w2 ⟨rfl, h2⟩; have H2 := hid h2; clear h2))
  go_ret
  exact ⟨rfl, H2.out⟩

set_option maxRecDepth 100000 in
set_option maxHeartbeats 1000000 in
/-- Power is off: every rule says so. -/
theorem find_off (d : Nat) (a b c : Value) (w : World) (c7 : w.cell? ⟨d, 7, none⟩ = some (.bool true)) (_ha : a.cells = #[a]) (_hb : b.cells = #[b]) (_hc : c.cells = #[c]) :
    Calls Tryz.prog 69 #[.pointer (some ⟨d, 0, none⟩), .agg #[a, b, c]] w fun x w' => x = .returned (.tuple #[.pointer none, .int .i64 11]) ∧ Below w.heap.size w w' := by
  have hnw := World.new_ne w ⟨d, 7, none⟩ c7
  have hdl := World.block_lt_of_cell? _ _ c7
  go_enter Tryz.func69, Tryz.ntmps69
  go_wp2
  go_ret2
  exact ⟨rfl, (Below.refl _ _).alloc (Nat.le_refl _) _⟩

set_option maxRecDepth 100000 in
set_option maxHeartbeats 1000000 in
/-- One name on a disk without names. -/
theorem find_nil1 (d g : Nat) (nm : ByteArray) (ab : Bool) (sz : Int) (w : World) (c7 : w.cell? ⟨d, 7, none⟩ = some (.bool false)) (c4 : w.cell? ⟨d, 4, none⟩ = some (.map none)) (hg : w.cell? ⟨g, 0, none⟩ = some (.string nm)) (hs : nm.size ≤ maxLen) :
    Calls Tryz.prog 69 #[.pointer (some ⟨d, 0, none⟩), .agg #[.slice (some ⟨g, 0, none⟩) 1 1, .bool ab, .int .i64 sz]] w fun x w' => x = .returned (.tuple #[.pointer none, .int .i64 (if nmOK nm then (if ab then 0 else 6) else 5)]) ∧ Below w.heap.size w w' := by
  have hdl := World.block_lt_of_cell? _ _ c7
  have hgl := World.block_lt_of_cell? _ _ hg
  have hl : ∀ m, (Instr.lookup 47 (.map none) (.string nm) true).run Tryz.prog ((w.alloc (.cells #[.slice (some ⟨g, 0, none⟩) 1 1, .bool ab, .int .i64 sz] 104)).drewN m) = .ok (.tuple #[.int .i64 0, .bool false]) ((w.alloc (.cells #[.slice (some ⟨g, 0, none⟩) 1 1, .bool ab, .int .i64 sz] 104)).drewN m) := fun m =>
    look_nil (w := (w.alloc (.cells #[.slice (some ⟨g, 0, none⟩) 1 1, .bool ab, .int .i64 sz] 104)).drewN m) Tryz.underlying47 Tryz.underlying9 (key_str nm) (zero3 _) true
  cases hok : nmOK nm
  · go_enter Tryz.func69, Tryz.ntmps69
    go_wp2
    refine wp_loop_rounds 2 ?_
    rw [rounds_succ]
    go_wp2_with (go_at_call 89; refine (isName_any nm _ hs).mono ?_; rw [hok]; rintro e w' ⟨rfl, rfl⟩)
    go_ret2
    exact ⟨rfl, (Below.refl _ _).alloc (Nat.le_refl _) _⟩
  · cases ab
    · go_enter Tryz.func69, Tryz.ntmps69
      go_wp2
      refine wp_loop_rounds 2 ?_
      rw [rounds_succ]
      go_wp2_with (go_at_call 89; refine (isName_any nm _ hs).mono ?_; rw [hok]; rintro e w' ⟨rfl, rfl⟩)
      rw [rounds_succ]
      go_wp2
      go_quiet (fail)
      go_wp2
      go_ret2
      exact ⟨rfl, below_drewN ((Below.refl _ _).alloc (Nat.le_refl _) _) _⟩
    · go_enter Tryz.func69, Tryz.ntmps69
      go_wp2
      refine wp_loop_rounds 2 ?_
      rw [rounds_succ]
      go_wp2_with (go_at_call 89; refine (isName_any nm _ hs).mono ?_; rw [hok]; rintro e w' ⟨rfl, rfl⟩)
      rw [rounds_succ]
      go_wp2
      go_quiet (fail)
      go_wp2
      go_ret2
      exact ⟨rfl, below_drewN ((Below.refl _ _).alloc (Nat.le_refl _) _) _⟩

set_option maxRecDepth 100000 in
set_option maxHeartbeats 1000000 in
/-- Two names on a disk without names. -/
theorem find_nil2 (d g : Nat) (nm mn : ByteArray) (w : World) (c7 : w.cell? ⟨d, 7, none⟩ = some (.bool false)) (c4 : w.cell? ⟨d, 4, none⟩ = some (.map none)) (hg : w.cell? ⟨g, 0, none⟩ = some (.string nm)) (hg1 : w.cell? ⟨g, 1, none⟩ = some (.string mn)) (hs : nm.size ≤ maxLen) (hs1 : mn.size ≤ maxLen) :
    Calls Tryz.prog 69 #[.pointer (some ⟨d, 0, none⟩), .agg #[.slice (some ⟨g, 0, none⟩) 2 2, .bool false, .int .i64 0]] w fun x w' => x = .returned (.tuple #[.pointer none, .int .i64 (if nmOK nm && nmOK mn then 6 else 5)]) ∧ Below w.heap.size w w' := by
  have hdl := World.block_lt_of_cell? _ _ c7
  have hgl := World.block_lt_of_cell? _ _ hg
  have hl : ∀ m, (Instr.lookup 47 (.map none) (.string nm) true).run Tryz.prog ((w.alloc (.cells #[.slice (some ⟨g, 0, none⟩) 2 2, .bool false, .int .i64 0] 104)).drewN m) = .ok (.tuple #[.int .i64 0, .bool false]) ((w.alloc (.cells #[.slice (some ⟨g, 0, none⟩) 2 2, .bool false, .int .i64 0] 104)).drewN m) := fun m =>
    look_nil (w := (w.alloc (.cells #[.slice (some ⟨g, 0, none⟩) 2 2, .bool false, .int .i64 0] 104)).drewN m) Tryz.underlying47 Tryz.underlying9 (key_str nm) (zero3 _) true
  cases hok : nmOK nm
  · go_enter Tryz.func69, Tryz.ntmps69
    go_wp2
    refine wp_loop_rounds 3 ?_
    rw [rounds_succ]
    go_wp2_with (go_at_call 89; refine (isName_any nm _ hs).mono ?_; rw [hok]; rintro e w' ⟨rfl, rfl⟩)
    go_ret2
    exact ⟨rfl, (Below.refl _ _).alloc (Nat.le_refl _) _⟩
  · cases hok1 : nmOK mn
    · go_enter Tryz.func69, Tryz.ntmps69
      go_wp2
      refine wp_loop_rounds 3 ?_
      rw [rounds_succ]
      go_wp2_with (go_at_call 89; refine (isName_any nm _ hs).mono ?_; rw [hok]; rintro e w' ⟨rfl, rfl⟩)
      rw [rounds_succ]
      go_wp2_with (go_at_call 89; refine (isName_any mn _ hs1).mono ?_; rw [hok1]; rintro e w' ⟨rfl, rfl⟩)
      go_ret2
      exact ⟨rfl, (Below.refl _ _).alloc (Nat.le_refl _) _⟩
    · go_enter Tryz.func69, Tryz.ntmps69
      go_wp2
      refine wp_loop_rounds 3 ?_
      rw [rounds_succ]
      go_wp2_with (go_at_call 89; refine (isName_any nm _ hs).mono ?_; rw [hok]; rintro e w' ⟨rfl, rfl⟩)
      rw [rounds_succ]
      go_wp2_with (go_at_call 89; refine (isName_any mn _ hs1).mono ?_; rw [hok1]; rintro e w' ⟨rfl, rfl⟩)
      rw [rounds_succ]
      go_wp2
      go_quiet (fail)
      go_wp2
      go_ret2
      exact ⟨rfl, below_drewN ((Below.refl _ _).alloc (Nat.le_refl _) _) _⟩

end Go.Proofs.YtlmompdfombgeaaGreat
