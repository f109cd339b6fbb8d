import Derived.Test.YtlmompdfombgeaaGreatK13
namespace Go.Proofs.YtlmompdfombgeaaGreat
open Go.RowKit Go.MapKept

/-- A map that tells these faults. -/
def KF (w : World) (k : Value) (fs : List (Int × Int)) : Prop := (k = .map none ∧ fs = []) ∨ ∃ b es c, k = .map (some b) ∧ w.heap[b]? = some (.map es c) ∧ KM es fs

theorem KF.look {w : World} {k : Value} {fs : List (Int × Int)} (h : KF w k fs) (n : Int) : (Instr.lookup 49 k (.int .i64 n) false).run Tryz.prog w = .ok (.int .i64 (fo fs n)) w := by
  rcases h with ⟨rfl, rfl⟩ | ⟨b, es, c, rfl, hb, hk⟩
  · exact look_nil Tryz.underlying49 Tryz.underlying3 (key_int n) (zero3 w) false
  · exact hk.look hb n

theorem KF.kept {w w' : World} {k : Value} {fs : List (Int × Int)} {S : Nat → Prop} (h : KF w k fs) (hk : Kept S w w') (hS : ∀ b es c, w.heap[b]? = some (.map es c) → ¬ S b) : KF w' k fs := by
  rcases h with h | ⟨b, es, c, rfl, hb, hm⟩
  · exact .inl h
  · exact .inr ⟨b, es, c, rfl, hp_kept hb hk (hS b es c hb), hm⟩

/-- The error of a fault. -/
def fe (k : Int) : Int := if k = 1 then 11 else if k = 2 then 10 else if k = 3 then 8 else 0

/-- A zero disk: nothing but the power, the strokes and the planned faults. -/
def ZD (w : World) (d : Nat) (off : Bool) (cs : Int) (fs : List (Int × Int)) : Prop :=
  ∃ L k1 k2, DiskB w d 0 0 L 0 (.map none) (.map none) (.slice none 0 0) off cs k1 0 k2 ∧ NoKinds w L ∧ KF w k1 fs

theorem ZD.kept {w w' : World} {d : Nat} {off : Bool} {cs : Int} {fs : List (Int × Int)} {S : Nat → Prop} (h : ZD w d off cs fs) (hk : Kept S w w') (hd : ¬ S d) (hS : ∀ b es c, w.heap[b]? = some (.map es c) → ¬ S b) : ZD w' d off cs fs := by
  obtain ⟨L, k1, k2, h1, h2, h3⟩ := h
  exact ⟨L, k1, k2, hp_kept h1 hk hd, h2.kept hk (fun b c hb => hS b _ c hb), h3.kept hk hS⟩

theorem ZD.below {w w' : World} {d : Nat} {off : Bool} {cs : Int} {fs : List (Int × Int)} (h : ZD w d off cs fs) (hk : Below w.heap.size w w') : ZD w' d off cs fs := h.kept (Kept.ofBelow hk) (fun e => e) (fun _ _ _ _ e => e)

theorem ZD.lt {w : World} {d : Nat} {off : Bool} {cs : Int} {fs : List (Int × Int)} (h : ZD w d off cs fs) : d < w.heap.size := by
  obtain ⟨L, k1, k2, h1, h2, h3⟩ := h
  exact hp_lt h1

/-- The document's zero disk. -/
def ZR (w : World) (r : Nat) (off : Bool) (cs : Int) (fs : List (Int × Int)) : Prop :=
  ∃ sv rv, w.heap[r]? = some (.cells #[.int .i64 0, .int .i64 0, .int .i64 0, .slice none 0 0, .slice none 0 0, .slice none 0 0, sv, rv, .int .i64 cs, .int .i64 0, .bool off] 58 (0, 0)) ∧ Fl w sv fs ∧ (∀ k, sv.ownBlock = some k → r < k) ∧ ∃ a n c, rv = .slice a n c

theorem ZR.kept {w w' : World} {r : Nat} {off : Bool} {cs : Int} {fs : List (Int × Int)} {S : Nat → Prop} (h : ZR w r off cs fs) (hk : Kept S w w') (hd : ¬ S r) (hS : ∀ b, r < b → ¬ S b) : ZR w' r off cs fs := by
  obtain ⟨sv, rv, h1, h2, h3⟩ := h
  exact ⟨sv, rv, hp_kept h1 hk hd, Rf.kept h2 hk (fun b hb => hS b (h3.1 b hb)), h3⟩

theorem ZR.below {w w' : World} {r : Nat} {off : Bool} {cs : Int} {fs : List (Int × Int)} (h : ZR w r off cs fs) (hk : Below w.heap.size w w') : ZR w' r off cs fs := h.kept (Kept.ofBelow hk) (fun e => e) (fun _ _ e => e)

/-- What a name's file answers on a disk without files. -/
def kE (off : Bool) (nm : ByteArray) : Int := if off then 11 else if nmOK nm then 6 else 5
/-- A stroke's answer, the power behind it, the strokes. -/
def snP (off : Bool) (cs : Int) (fs : List (Int × Int)) : Int × Bool × Int := if off then (11, true, cs) else (fe (fo fs (cs + 1)), decide (fo fs (cs + 1) = 1), cs + 1)
def crP (off : Bool) (nm : ByteArray) (cs : Int) (fs : List (Int × Int)) : Int × Bool × Int := if kE off nm = 6 then (if fe (fo fs (cs + 1)) = 0 then 9 else fe (fo fs (cs + 1)), decide (fo fs (cs + 1) = 1), cs + 1) else (kE off nm, off, cs)

theorem Kept.drewN {S : Nat → Prop} {a w : World} (h : Kept S a w) (n : Nat) : Kept S a (w.drewN n) := ⟨h.os, h.tape, h.output, h.size, h.block⟩

theorem NoKinds.len {w : World} {L : Value} (h : NoKinds w L) (ty : TypeId) : (Builtin.len_ #[46] ty #[L]).run Tryz.prog w = .ok (.int .i64 0) w := by
  rcases h with rfl | ⟨b, c, rfl, hb⟩
  · simp [Builtin.len_, run_underlying Tryz.underlying46, goInt]
  · simpa using len_map (w := w) Tryz.underlying46 hb ty

set_option maxRecDepth 100000 in
set_option maxHeartbeats 1000000 in
/-- A stroke that is counted, and its fault. -/
theorem count_z (d : Nat) (n : Int) (fs : List (Int × Int)) (w : World) (h : ZD w d false n fs) (hn0 : 0 ≤ n) (hn : n ≤ 1000000000) :
    Calls Tryz.prog 70 #[.pointer (some ⟨d, 0, none⟩), .pointer (some ⟨d, 8, none⟩)] w fun x w' => x = .returned (.int .i64 (fe (fo fs (n + 1)))) ∧ ZD w' d (decide (fo fs (n + 1) = 1)) (n + 1) fs ∧ Kept (fun k => k = d) w w' := by
  obtain ⟨L, k, k2, hd, hL, hk⟩ := h
  obtain ⟨-, -, -, -, -, -, -, c7, c8, c9, -, -⟩ := hd.cells
  have ff := hd.free
  have hmp : ∀ b es c, w.heap[b]? = some (.map es c) → ¬ b = d := fun b es c hb e => by subst e; exact hp_ne hd hb (by simp) rfl
  have hk2 : KF (w.setCell ⟨d, 8, none⟩ (.int .i64 (n + 1))) k fs := hk.kept (S := fun k => k = d) ((Kept.refl (fun k => k = d) w).setCell (p := ⟨d, 8, none⟩) (fun _ => rfl) _) hmp
  have hl : ∀ m, (Instr.lookup 49 k (.int .i64 (n + 1)) false).run Tryz.prog ((w.setCell ⟨d, 8, none⟩ (.int .i64 (n + 1))).drewN m) = .ok (.int .i64 (fo fs (n + 1))) ((w.setCell ⟨d, 8, none⟩ (.int .i64 (n + 1))).drewN m) := fun m => KF.look (w := (w.setCell ⟨d, 8, none⟩ (.int .i64 (n + 1))).drewN m) hk2 _
  have hr := fo_range fs (n + 1)
  obtain ⟨q, hq⟩ : ∃ q, q = fo fs (n + 1) := ⟨_, rfl⟩
  rw [← hq] at hr ⊢
  simp only [← hq] at hl
  have HZ := hid (And.intro hd (And.intro hL (And.intro hk hmp)))
  clear hq hd hL hk hk2 hmp
  have hcase : q = 0 ∨ q = 1 ∨ q = 2 ∨ q = 3 := by omega
  clear hr
  have fin : ∀ nq, ZD ((w.setCell ⟨d, 8, none⟩ (.int .i64 (n + 1))).drewN nq) d false (n + 1) fs ∧ Kept (fun k => k = d) w ((w.setCell ⟨d, 8, none⟩ (.int .i64 (n + 1))).drewN nq) := by
    intro nq
    obtain ⟨hd, hL, hk, hmp⟩ := HZ.out
    have K : Kept (fun k => k = d) w ((w.setCell ⟨d, 8, none⟩ (.int .i64 (n + 1))).drewN nq) := ((Kept.refl (fun k => k = d) w).setCell (p := ⟨d, 8, none⟩) (fun _ => rfl) _).drewN nq
    exact ⟨⟨L, k, k2, set_block (i := 8) hd _, hL.kept K (fun b c hb => hmp b _ c hb), hk.kept K hmp⟩, K⟩
  have fin1 : ∀ nq, ZD (((w.setCell ⟨d, 8, none⟩ (.int .i64 (n + 1))).setCell ⟨d, 7, none⟩ (.bool true)).drewN nq) d true (n + 1) fs ∧ Kept (fun k => k = d) w (((w.setCell ⟨d, 8, none⟩ (.int .i64 (n + 1))).setCell ⟨d, 7, none⟩ (.bool true)).drewN nq) := by
    intro nq
    obtain ⟨hd, hL, hk, hmp⟩ := HZ.out
    have K : Kept (fun k => k = d) w (((w.setCell ⟨d, 8, none⟩ (.int .i64 (n + 1))).setCell ⟨d, 7, none⟩ (.bool true)).drewN nq) := (((Kept.refl (fun k => k = d) w).setCell (p := ⟨d, 8, none⟩) (fun _ => rfl) _).setCell (p := ⟨d, 7, none⟩) (fun _ => rfl) _).drewN nq
    exact ⟨⟨L, k, k2, set_block (i := 7) (set_block (i := 8) hd _) _, hL.kept K (fun b c hb => hmp b _ c hb), hk.kept K hmp⟩, K⟩
  have F0 := hid fin
  have F1 := hid fin1
  clear fin fin1 HZ
  rcases hcase with rfl | rfl | rfl | rfl
  · go_enter Tryz.func70, Tryz.ntmps70
    go_wp2
    go_quiet (fail)
    go_wp2
    go_ret
    exact ⟨rfl, F0.out _⟩
  · go_enter Tryz.func70, Tryz.ntmps70
    go_wp2
    go_quiet (fail)
    go_wp2
    go_ret
    exact ⟨rfl, F1.out _⟩
  · go_enter Tryz.func70, Tryz.ntmps70
    go_wp2
    go_quiet (fail)
    go_wp2
    go_ret
    exact ⟨rfl, F0.out _⟩
  · go_enter Tryz.func70, Tryz.ntmps70
    go_wp2
    go_quiet (fail)
    go_wp2
    go_ret
    exact ⟨rfl, F0.out _⟩

set_option maxRecDepth 100000 in
set_option maxHeartbeats 1000000 in
theorem stroke_bad (d fn : Nat) (a b c fv : Value) (cap : Array Value) (r : Int) (w : World) (R1 R2 : World → Prop) (hr : (r == 0) = false) (_ha : a.cells = #[a]) (_hb : b.cells = #[b]) (_hc : c.cells = #[c])
    (hfind : Calls Tryz.prog 69 #[.pointer (some ⟨d, 0, none⟩), .agg #[a, b, c]] (w.alloc (.cells #[a, b, c] 104)) fun x w1 => x = .returned (.tuple #[fv, .int .i64 0]) ∧ R1 w1)
    (hcount : ∀ w1, R1 w1 → Calls Tryz.prog 70 #[.pointer (some ⟨d, 0, none⟩), .pointer (some ⟨d, 8, none⟩)] w1 fun x w2 => x = .returned (.int .i64 r) ∧ R2 w2) :
    Calls Tryz.prog 76 #[.pointer (some ⟨d, 0, none⟩), .agg #[a, b, c], .func (.func fn) #[] cap] w fun x w3 => x = .returned (.int .i64 r) ∧ R2 w3 := by
  have HF := hid hfind
  have HC := hid hcount
  clear hfind hcount
  go_enter Tryz.func76, Tryz.ntmps76
  go_wp2_with (first
    | (go_at_call 69; refine HF.out.mono ?_; rintro e w1 ⟨rfl, h1⟩; have H1 := hid h1; clear h1)
    | (go_at_call 70; refine (HC.out _ H1.out).mono ?_; rintro e w2 ⟨rfl, h2⟩; have H2 := hid h2; clear h2))
  go_ret
  exact ⟨rfl, H2.out⟩

set_option maxRecDepth 100000 in
set_option maxHeartbeats 1000000 in
/-- Power is off: every rule says so. -/
theorem find_off (d : Nat) (a b c : Value) (w : World) (c7 : w.cell? ⟨d, 7, none⟩ = some (.bool true)) (_ha : a.cells = #[a]) (_hb : b.cells = #[b]) (_hc : c.cells = #[c]) :
    Calls Tryz.prog 69 #[.pointer (some ⟨d, 0, none⟩), .agg #[a, b, c]] w fun x w' => x = .returned (.tuple #[.pointer none, .int .i64 11]) ∧ Below w.heap.size w w' := by
  have hnw := World.new_ne w ⟨d, 7, none⟩ c7
  have hdl := World.block_lt_of_cell? _ _ c7
  go_enter Tryz.func69, Tryz.ntmps69
  go_wp2
  go_ret2
  exact ⟨rfl, (Below.refl _ _).alloc (Nat.le_refl _) _⟩

set_option maxRecDepth 100000 in
set_option maxHeartbeats 1000000 in
/-- One name on a disk without names. -/
theorem find_nil1 (d g : Nat) (nm : ByteArray) (ab : Bool) (sz : Int) (w : World) (c7 : w.cell? ⟨d, 7, none⟩ = some (.bool false)) (c4 : w.cell? ⟨d, 4, none⟩ = some (.map none)) (hg : w.cell? ⟨g, 0, none⟩ = some (.string nm)) (hs : nm.size ≤ maxLen) :
    Calls Tryz.prog 69 #[.pointer (some ⟨d, 0, none⟩), .agg #[.slice (some ⟨g, 0, none⟩) 1 1, .bool ab, .int .i64 sz]] w fun x w' => x = .returned (.tuple #[.pointer none, .int .i64 (if nmOK nm then (if ab then 0 else 6) else 5)]) ∧ Below w.heap.size w w' := by
  have hdl := World.block_lt_of_cell? _ _ c7
  have hgl := World.block_lt_of_cell? _ _ hg
  have hl : ∀ m, (Instr.lookup 47 (.map none) (.string nm) true).run Tryz.prog ((w.alloc (.cells #[.slice (some ⟨g, 0, none⟩) 1 1, .bool ab, .int .i64 sz] 104)).drewN m) = .ok (.tuple #[.int .i64 0, .bool false]) ((w.alloc (.cells #[.slice (some ⟨g, 0, none⟩) 1 1, .bool ab, .int .i64 sz] 104)).drewN m) := fun m =>
    look_nil (w := (w.alloc (.cells #[.slice (some ⟨g, 0, none⟩) 1 1, .bool ab, .int .i64 sz] 104)).drewN m) Tryz.underlying47 Tryz.underlying9 (key_str nm) (zero3 _) true
  cases hok : nmOK nm
  · go_enter Tryz.func69, Tryz.ntmps69
    go_wp2
    refine wp_loop_rounds 2 ?_
    rw [rounds_succ]
    go_wp2_with (go_at_call 89; refine (isName_any nm _ hs).mono ?_; rw [hok]; rintro e w' ⟨rfl, rfl⟩)
    go_ret2
    exact ⟨rfl, (Below.refl _ _).alloc (Nat.le_refl _) _⟩
  · cases ab
    · go_enter Tryz.func69, Tryz.ntmps69
      go_wp2
      refine wp_loop_rounds 2 ?_
      rw [rounds_succ]
      go_wp2_with (go_at_call 89; refine (isName_any nm _ hs).mono ?_; rw [hok]; rintro e w' ⟨rfl, rfl⟩)
      rw [rounds_succ]
      go_wp2
      go_quiet (fail)
      go_wp2
      go_ret2
      exact ⟨rfl, below_drewN ((Below.refl _ _).alloc (Nat.le_refl _) _) _⟩
    · go_enter Tryz.func69, Tryz.ntmps69
      go_wp2
      refine wp_loop_rounds 2 ?_
      rw [rounds_succ]
      go_wp2_with (go_at_call 89; refine (isName_any nm _ hs).mono ?_; rw [hok]; rintro e w' ⟨rfl, rfl⟩)
      rw [rounds_succ]
      go_wp2
      go_quiet (fail)
      go_wp2
      go_ret2
      exact ⟨rfl, below_drewN ((Below.refl _ _).alloc (Nat.le_refl _) _) _⟩

set_option maxRecDepth 100000 in
set_option maxHeartbeats 1000000 in
/-- Two names on a disk without names. -/
theorem find_nil2 (d g : Nat) (nm mn : ByteArray) (w : World) (c7 : w.cell? ⟨d, 7, none⟩ = some (.bool false)) (c4 : w.cell? ⟨d, 4, none⟩ = some (.map none)) (hg : w.cell? ⟨g, 0, none⟩ = some (.string nm)) (hg1 : w.cell? ⟨g, 1, none⟩ = some (.string mn)) (hs : nm.size ≤ maxLen) (hs1 : mn.size ≤ maxLen) :
    Calls Tryz.prog 69 #[.pointer (some ⟨d, 0, none⟩), .agg #[.slice (some ⟨g, 0, none⟩) 2 2, .bool false, .int .i64 0]] w fun x w' => x = .returned (.tuple #[.pointer none, .int .i64 (if nmOK nm && nmOK mn then 6 else 5)]) ∧ Below w.heap.size w w' := by
  have hdl := World.block_lt_of_cell? _ _ c7
  have hgl := World.block_lt_of_cell? _ _ hg
  have hl : ∀ m, (Instr.lookup 47 (.map none) (.string nm) true).run Tryz.prog ((w.alloc (.cells #[.slice (some ⟨g, 0, none⟩) 2 2, .bool false, .int .i64 0] 104)).drewN m) = .ok (.tuple #[.int .i64 0, .bool false]) ((w.alloc (.cells #[.slice (some ⟨g, 0, none⟩) 2 2, .bool false, .int .i64 0] 104)).drewN m) := fun m =>
    look_nil (w := (w.alloc (.cells #[.slice (some ⟨g, 0, none⟩) 2 2, .bool false, .int .i64 0] 104)).drewN m) Tryz.underlying47 Tryz.underlying9 (key_str nm) (zero3 _) true
  cases hok : nmOK nm
  · go_enter Tryz.func69, Tryz.ntmps69
    go_wp2
    refine wp_loop_rounds 3 ?_
    rw [rounds_succ]
    go_wp2_with (go_at_call 89; refine (isName_any nm _ hs).mono ?_; rw [hok]; rintro e w' ⟨rfl, rfl⟩)
    go_ret2
    exact ⟨rfl, (Below.refl _ _).alloc (Nat.le_refl _) _⟩
  · cases hok1 : nmOK mn
    · go_enter Tryz.func69, Tryz.ntmps69
      go_wp2
      refine wp_loop_rounds 3 ?_
      rw [rounds_succ]
      go_wp2_with (go_at_call 89; refine (isName_any nm _ hs).mono ?_; rw [hok]; rintro e w' ⟨rfl, rfl⟩)
      rw [rounds_succ]
      go_wp2_with (go_at_call 89; refine (isName_any mn _ hs1).mono ?_; rw [hok1]; rintro e w' ⟨rfl, rfl⟩)
      go_ret2
      exact ⟨rfl, (Below.refl _ _).alloc (Nat.le_refl _) _⟩
    · go_enter Tryz.func69, Tryz.ntmps69
      go_wp2
      refine wp_loop_rounds 3 ?_
      rw [rounds_succ]
      go_wp2_with (go_at_call 89; refine (isName_any nm _ hs).mono ?_; rw [hok]; rintro e w' ⟨rfl, rfl⟩)
      rw [rounds_succ]
      go_wp2_with (go_at_call 89; refine (isName_any mn _ hs1).mono ?_; rw [hok1]; rintro e w' ⟨rfl, rfl⟩)
      rw [rounds_succ]
      go_wp2
      go_quiet (fail)
      go_wp2
      go_ret2
      exact ⟨rfl, below_drewN ((Below.refl _ _).alloc (Nat.le_refl _) _) _⟩

end Go.Proofs.YtlmompdfombgeaaGreat

namespace Go.Proofs.YtlmompdfombgeaaGreat
open Go.RowKit Go.MapKept

theorem NoKinds.below {w w' : World} {k : Value} (h : NoKinds w k) (hk : Below w.heap.size w w') : NoKinds w' k := h.kept (Kept.ofBelow hk) (fun _ _ _ e => e)
theorem KF.below {w w' : World} {k : Value} {fs : List (Int × Int)} (h : KF w k fs) (hk : Below w.heap.size w w') : KF w' k fs := h.kept (Kept.ofBelow hk) (fun _ _ _ _ e => e)

theorem making_nk (d : Nat) (L : Value) (w : World) (c2 : w.cell? ⟨d, 2, none⟩ = some L) (h : NoKinds w L) : Calls Tryz.prog 73 #[.pointer (some ⟨d, 0, none⟩)] w fun e w' => e = .returned (.slice none 0 0) ∧ Below w.heap.size w w' := by
  rcases h with rfl | ⟨b, c, rfl, hb⟩
  · exact making_nil d w c2
  · exact making_zero d b c w c2 hb

set_option maxRecDepth 100000 in
set_option maxHeartbeats 1000000 in
theorem held_nil (w : World) : Calls Tryz.prog 74 #[.map none] w fun x w' => x = .returned (.tuple #[.int .i64 0, .int .i64 0]) ∧ Below w.heap.size w w' := by
  have hr := run_range_nilMap (P := Tryz.prog) w 46 3 100 Tryz.underlying46
  have hn1 : ∀ ty, (Instr.next (.pointer (some ⟨w.heap.size, 0, none⟩)) false ty).run Tryz.prog (w.alloc (.mapIter none 0 #[] 0)) = _ := fun ty => run_next_nilMap w ty 0 0 #[]
  have hlen := fun ty => NoKinds.len (w := w.alloc (.mapIter none 0 #[] 0)) (.inl rfl) ty
  go_enter Tryz.func74, Tryz.ntmps74
  go_wp2
  refine wp_loop_rounds 1 ?_
  rw [rounds_succ]
  go_wp2
  go_ret2
  exact ⟨rfl, (Below.refl _ _).alloc (Nat.le_refl _) _⟩

theorem held_nk (L : Value) (w : World) (h : NoKinds w L) : Calls Tryz.prog 74 #[L] w fun x w' => x = .returned (.tuple #[.int .i64 0, .int .i64 0]) ∧ Below w.heap.size w w' := by
  rcases h with rfl | ⟨b, c, rfl, hb⟩
  · exact held_nil w
  · exact held_none b c w hb

set_option maxRecDepth 100000 in
set_option maxHeartbeats 1600000 in
theorem told_nil (fn : Nat) (lb : Array Value) (w : World) :
    Calls Tryz.prog 96 #[.map none, .func (.func fn) #[] lb] w fun x w' => x = .returned (.slice none 0 0) ∧ Below w.heap.size w w' := by
  go_enter Tryz.func96, Tryz.ntmps96
  go_wp2_with (
    go_at_call 72
    refine (sorted_nil w).mono ?_
    rintro e w1 ⟨rfl, hb1⟩
    have HB1 := hid hb1
    clear hb1)
  refine wp_loop_rounds 1 ?_
  rw [rounds_succ]
  go_wp2
  go_ret
  exact ⟨rfl, HB1.out⟩

set_option maxRecDepth 100000 in
set_option maxHeartbeats 1600000 in
theorem reached_nil (d : Nat) (w : World) : Calls Tryz.prog 91 #[.pointer (some ⟨d, 0, none⟩), .map none] w fun x w' => x = .returned (.map (some w.heap.size)) ∧ w'.heap[w.heap.size]? = some (.map #[] 0) ∧ Below w.heap.size w w' := by
  have hmm := @run_makeMap Tryz.prog
  have hr := run_range_nilMap (P := Tryz.prog) (w.alloc (.map #[] 0)) 47 9 3 Tryz.underlying47
  have hn1 : ∀ ty, (Instr.next (.pointer (some ⟨(w.alloc (.map #[] 0)).heap.size, 0, none⟩)) false ty).run Tryz.prog ((w.alloc (.map #[] 0)).alloc (.mapIter none 0 #[] 0)) = _ := fun ty => run_next_nilMap _ ty 0 0 #[]
  have es : (w.alloc (.map #[] 0)).heap.size = w.heap.size + 1 := by simp
  rw [es] at hr hn1
  clear es
  go_enter Tryz.func91, Tryz.ntmps91
  go_wp2
  refine wp_loop_rounds 1 ?_
  rw [rounds_succ]
  go_wp2
  go_ret
  exact ⟨rfl, hp_alloc (hp_new _ _) _, ((Below.refl _ _).alloc (Nat.le_refl _) _).alloc (by simp) _⟩

section
variable {w : World} {d : Nat} {off : Bool} {cs : Int} {fs : List (Int × Int)}

set_option maxRecDepth 100000 in
set_option maxHeartbeats 1600000 in
theorem settle_z (h : ZD w d off cs fs) : Calls Tryz.prog 86 #[.pointer (some ⟨d, 0, none⟩), .map none] w fun x w' => x = .returned (.tuple #[]) ∧ ZD w' d off cs fs ∧ Kept (fun k => k = d) w w' := by
  obtain ⟨L, k1, k2, hd, hL, hk⟩ := h
  obtain ⟨c0, c1, c2, c3, c4, c5, c6, c7, c8, c9, c10, c11⟩ := hd.cells
  have ff := hd.free
  have hdl := hp_lt hd
  have hmp : ∀ b es c, w.heap[b]? = some (.map es c) → ¬ b = d := fun b es c hb e => by subst e; exact hp_ne hd hb (by simp) rfl
  have hk3 : Kept (fun k => k = d) w (((w.setCell ⟨d, 4, none⟩ (.map none)).setCell ⟨d, 5, none⟩ (.map none)).setCell ⟨d, 6, none⟩ (.slice none 0 0)) :=
    (((Kept.refl (fun k => k = d) w).setCell (p := ⟨d, 4, none⟩) (fun _ => rfl) _).setCell (p := ⟨d, 5, none⟩) (fun _ => rfl) _).setCell (p := ⟨d, 6, none⟩) (fun _ => rfl) _
  have hD3 : DiskB (((w.setCell ⟨d, 4, none⟩ (.map none)).setCell ⟨d, 5, none⟩ (.map none)).setCell ⟨d, 6, none⟩ (.slice none 0 0)) d 0 0 L 0 (.map none) (.map none) (.slice none 0 0) off cs k1 0 k2 :=
    set_block (i := 6) (set_block (i := 5) (set_block (i := 4) hd _) _) _
  have HI := hid (And.intro hk3 (And.intro hD3 (And.intro hk hmp)))
  clear hd hL hk hmp hk3 hD3
  go_enter Tryz.func86, Tryz.ntmps86
  go_wp2_with (first
    | (go_at_call 90
       refine (mapsClone_nil _).mono ?_
       rintro e w1 ⟨rfl, e1⟩
       rw [e1]
       clear e1 w1)
    | (go_at_call 91
       refine (reached_nil d _).mono ?_
       rintro e w2 ⟨rfl, hm2, hb2⟩
       have hd2 := (show DiskB w2 d 0 0 L 0 (.map none) (.map none) (.slice none 0 0) off cs k1 0 k2 from hp_below HI.out.2.1 hb2 (hp_lt HI.out.2.1))
       obtain ⟨-, -, y2, -⟩ := hd2.cells
       have yf := hd2.free
       have HB2 := hid (And.intro hd2 (And.intro hm2 hb2))
       clear hd2 hm2 hb2))
  go_end0
  obtain ⟨hk3, hD3, hk, hmp⟩ := HI.out
  obtain ⟨hd2, hm2, hb2⟩ := HB2.out
  have es : (((w.setCell ⟨d, 4, none⟩ (.map none)).setCell ⟨d, 5, none⟩ (.map none)).setCell ⟨d, 6, none⟩ (.slice none 0 0)).heap.size = w.heap.size := by simp [World.setCell]
  have hkA : Kept (fun k => k = d) w w2 := hk3.trans (Kept.ofBelow hb2) (fun _ _ e => e.elim)
  rw [es] at hm2
  have hkB : Kept (fun k => k = d) w (w2.setCell ⟨d, 2, none⟩ (.map (some w.heap.size))) := hkA.setCell (p := ⟨d, 2, none⟩) (fun _ => rfl) _
  exact ⟨rfl, ⟨_, k1, k2, set_block (i := 2) hd2 _, .inr ⟨_, _, rfl, hp_set hm2 (p := ⟨d, 2, none⟩) (by dsimp only; omega) _⟩, hk.kept hkB hmp⟩, hkB⟩

set_option maxRecDepth 100000 in
set_option maxHeartbeats 1600000 in
theorem plan_z (h : ZD w d off cs fs) (sv rv : Value) (gs gr : List (Int × Int)) (h1 : Fl w sv gs) (h2 : Fl w rv gr) (l1 : gs.length ≤ 300) (l2 : gr.length ≤ 300) (n1 : sv.ownBlock ≠ some d) (n2 : rv.ownBlock ≠ some d) :
    Calls Tryz.prog 19 #[.pointer (some ⟨d, 0, none⟩), .agg #[sv, rv]] w fun x w' => x = .returned (.tuple #[]) ∧ ZD w' d off 0 gs ∧ Kept (fun k => k = d) w w' := by
  obtain ⟨ao, cp, rfl, hc1, hc2⟩ := h1.shape
  obtain ⟨ar, cr, rfl, hc3, hc4⟩ := h2.shape
  obtain ⟨L, k1, k2, hd, hL, hk⟩ := h
  have hmp : ∀ b es c, w.heap[b]? = some (.map es c) → ¬ b = d := fun b es c hb e => by subst e; exact hp_ne hd hb (by simp) rfl
  obtain ⟨c0, c1, c2, c3, c4, c5, c6, c7, c8, c9, c10, c11⟩ := hd.cells
  have ff := hd.free
  have hdl := hp_lt hd
  have HD := hid (And.intro hd (And.intro hL (And.intro hmp (And.intro h1 h2))))
  clear hd c0 c1 c2 c3 c4 c5 c6 c7 hL hk hmp h1 h2
  have hb0 : Below w.heap.size w (w.alloc (.cells #[.slice ao gs.length cp, .slice ar gr.length cr] 38)) := (Below.refl _ _).alloc (Nat.le_refl _) _
  have HB0 := hid hb0
  clear hb0
  go_enter Tryz.func19, Tryz.ntmps19
  go_wp2_with (
    go_at_call 75
    (with_reducible show Calls _ _ #[.slice ao gs.length cp] _ _)
    refine (newTally_any _ gs _ (HD.out.2.2.2.1.below HB0.out) (by omega)).mono ?_
    rintro e w1 ⟨m1, es1, cc1, rfl, hm1, hkm1, hg1, hb1⟩
    have hd1 := (show DiskB w1 d 0 0 L 0 (.map none) (.map none) (.slice none 0 0) off cs k1 0 k2 from hp_below (hp_alloc HD.out.1 _) hb1 (by simp; omega))
    obtain ⟨-, -, -, -, -, -, -, -, x8, x9, x10, x11⟩ := hd1.cells
    have xf := hd1.free
    have bx0 := hb1.cell (p := ⟨w.heap.size, 0, none⟩) (by simp)
    have bx1 := hb1.cell (p := ⟨w.heap.size, 1, none⟩) (by simp)
    have hzz : w.heap.size < w1.heap.size := (by have := hb1.size; simp at this; omega)
    have H1 := hid (And.intro hd1 (And.intro hm1 (And.intro hkm1 (And.intro hg1 hb1))))
    clear hd1 hm1 hg1 hb1 hkm1)
  have hd3 : DiskB ((w1.setCell ⟨d, 8, none⟩ (.int .i64 0)).setCell ⟨d, 9, none⟩ (.map (some m1))) d 0 0 L 0 (.map none) (.map none) (.slice none 0 0) off 0 (.map (some m1)) 0 k2 := set_block (i := 9) (set_block (i := 8) H1.out.1 _) _
  obtain ⟨W, hW⟩ : ∃ W, W = (w1.setCell ⟨d, 8, none⟩ (.int .i64 0)).setCell ⟨d, 9, none⟩ (.map (some m1)) := ⟨_, rfl⟩
  rw [← hW] at hd3 ⊢
  have hkW : Kept (fun k => k = d) w1 W := by
    rw [hW]
    exact ((Kept.refl (fun k => k = d) w1).setCell (p := ⟨d, 8, none⟩) (fun _ => rfl) _).setCell (p := ⟨d, 9, none⟩) (fun _ => rfl) _
  have hrW : Fl W (.slice ar gr.length cr) gr := Rf.kept ((HD.out.2.2.2.2.below HB0.out).below H1.out.2.2.2.2) hkW (fun k hk e => n2 (by rw [hk, e]))
  have HW := hid (And.intro hd3 (And.intro hkW hrW))
  clear hW hd3 hkW hrW
  go_wp2_with (
    go_at_call 75
    (with_reducible show Calls _ _ #[.slice ar gr.length cr] _ _)
    refine (newTally_any _ gr W HW.out.2.2 (by omega)).mono ?_
    rintro e w2 ⟨m2, es2, cc2, rfl, hm2, hkm2, hg2, hb2⟩
    have hd2 := (show DiskB w2 d 0 0 L 0 (.map none) (.map none) (.slice none 0 0) off 0 (.map (some m1)) 0 k2 from hp_below HW.out.1 hb2 (hp_lt HW.out.1))
    obtain ⟨-, -, -, -, -, -, -, -, y8, y9, y10, y11⟩ := hd2.cells
    have yf := hd2.free
    have H2 := hid (And.intro hd2 (And.intro hm2 (And.intro hg2 hb2)))
    clear hd2 hm2 hg2 hb2 hkm2)
  go_end0
  obtain ⟨hd1, hm1, hkm1, hg1, hb1⟩ := H1.out
  obtain ⟨hd2, hm2, hg2, hb2⟩ := H2.out
  obtain ⟨hd3, hkW, -⟩ := HW.out
  have hz1 := hb1.size
  have hz2 := hkW.size
  simp at hz1 hg1
  have K3 : Kept (fun k => k = d) w2 ((w2.setCell ⟨d, 10, none⟩ (.int .i64 0)).setCell ⟨d, 11, none⟩ (.map (some m2))) := ((Kept.refl (fun k => k = d) w2).setCell (p := ⟨d, 10, none⟩) (fun _ => rfl) _).setCell (p := ⟨d, 11, none⟩) (fun _ => rfl) _
  have k1' : Kept (fun _ => False) w w1 := ((Kept.refl (fun _ => False) w).alloc _).trans (Kept.ofBelow hb1) (fun _ _ e => e)
  have KA : Kept (fun k => k = d) w ((w2.setCell ⟨d, 10, none⟩ (.int .i64 0)).setCell ⟨d, 11, none⟩ (.map (some m2))) := (((k1'.mono (S' := fun k => k = d) (fun _ _ e => e.elim)).trans hkW (fun _ _ e => e)).trans (Kept.ofBelow hb2) (fun _ _ e => e.elim)).trans K3 (fun _ _ e => e)
  refine ⟨rfl, ⟨L, .map (some m1), .map (some m2), set_block (i := 11) (set_block (i := 10) hd2 _) _, HD.out.2.1.kept KA (fun b c hb => HD.out.2.2.1 b _ c hb), .inr ⟨m1, es1, cc1, rfl, ?_, hkm1⟩⟩, KA⟩
  exact hp_kept (hp_below (hp_kept hm1 hkW (by omega)) hb2 (by have := hp_lt hm1; omega)) K3 (by omega)

end
end Go.Proofs.YtlmompdfombgeaaGreat
