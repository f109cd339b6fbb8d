import Derived.Test.YtlmompdfombgeaaGreatD4
namespace Go.Proofs.YtlmompdfombgeaaGreat
open Go.RowKit Go.MapKept

theorem below_drewN {B : Nat} {w w' : World} (h : Below B w w') (n : Nat) : Below B w (w'.drewN n) := ⟨h.os, h.tape, h.output, h.size, h.block⟩

theorem zero3 (w : World) : (zeroValue 3).run Tryz.prog w = .ok (.int .i64 0) w := by kernel_rfl

set_option maxRecDepth 100000 in
set_option maxHeartbeats 1000000 in
theorem find_plain (d : Nat) (w : World) (c7 : w.cell? ⟨d, 7, none⟩ = some (.bool false)) :
    Calls Tryz.prog 69 #[.pointer (some ⟨d, 0, none⟩), .agg #[.slice none 0 0, .bool false, .int .i64 0]] w fun x w' => x = .returned (.tuple #[.pointer none, .int .i64 0]) ∧ Below w.heap.size w w' := by
  have hnw := World.new_ne w ⟨d, 7, none⟩ c7
  have hdl := World.block_lt_of_cell? _ _ c7
  go_enter Tryz.func69, Tryz.ntmps69
  go_wp2
  refine wp_loop_rounds 1 ?_
  rw [rounds_succ]
  go_wp2
  go_ret2
  exact ⟨rfl, (Below.refl _ _).alloc (Nat.le_refl _) _⟩

set_option maxRecDepth 100000 in
set_option maxHeartbeats 1000000 in
theorem find_absent (d g Nb : Nat) (nm : ByteArray) (es : Array MapEntry) (c : Nat) (w : World) (c7 : w.cell? ⟨d, 7, none⟩ = some (.bool false)) (c4 : w.cell? ⟨d, 4, none⟩ = some (.map (some Nb))) (hN : w.heap[Nb]? = some (.map es c)) (hg : w.cell? ⟨g, 0, none⟩ = some (.string nm)) (hok : nmOK nm = true) (hs : nm.size ≤ maxLen)
    (hf : Instr.findNow .string (.string nm) es.toList 0 = some none) :
    Calls Tryz.prog 69 #[.pointer (some ⟨d, 0, none⟩), .agg #[.slice (some ⟨g, 0, none⟩) 1 1, .bool true, .int .i64 0]] w fun x w' => x = .returned (.tuple #[.pointer none, .int .i64 0]) ∧ Below w.heap.size w w' := by
  have hdl := World.block_lt_of_cell? _ _ c7
  have hgl := World.block_lt_of_cell? _ _ hg
  have hl : ∀ m, (Instr.lookup 47 (.map (some Nb)) (.string nm) true).run Tryz.prog ((w.alloc (.cells #[.slice (some ⟨g, 0, none⟩) 1 1, .bool true, .int .i64 0] 104)).drewN m) = .ok (.tuple #[.int .i64 0, .bool false]) ((w.alloc (.cells #[.slice (some ⟨g, 0, none⟩) 1 1, .bool true, .int .i64 0] 104)).drewN m) := fun m =>
    look_none (w := (w.alloc (.cells #[.slice (some ⟨g, 0, none⟩) 1 1, .bool true, .int .i64 0] 104)).drewN m) Tryz.underlying47 Tryz.underlying9 (hp_alloc hN _) (key_str nm) (zero3 _) hf true
  clear hN hf
  go_enter Tryz.func69, Tryz.ntmps69
  go_wp2
  refine wp_loop_rounds 2 ?_
  rw [rounds_succ]
  go_wp2_with (go_at_call 89; refine (isName_any nm _ hs).mono ?_; rw [hok]; rintro e w' ⟨rfl, rfl⟩)
  rw [rounds_succ]
  go_wp2
  go_quiet (fail)
  go_wp2
  go_ret2
  exact ⟨rfl, below_drewN ((Below.refl _ _).alloc (Nat.le_refl _) _) _⟩

set_option maxRecDepth 100000 in
set_option maxHeartbeats 1000000 in
theorem find_exists (d g Nb : Nat) (nm : ByteArray) (es : Array MapEntry) (c i : Nat) (n : Int) (w : World) (c7 : w.cell? ⟨d, 7, none⟩ = some (.bool false)) (c4 : w.cell? ⟨d, 4, none⟩ = some (.map (some Nb))) (hN : w.heap[Nb]? = some (.map es c)) (hg : w.cell? ⟨g, 0, none⟩ = some (.string nm)) (hok : nmOK nm = true) (hs : nm.size ≤ maxLen)
    (hf : Instr.findNow .string (.string nm) es.toList 0 = some (some (i, .int .i64 n))) :
    Calls Tryz.prog 69 #[.pointer (some ⟨d, 0, none⟩), .agg #[.slice (some ⟨g, 0, none⟩) 1 1, .bool true, .int .i64 0]] w fun x w' => x = .returned (.tuple #[.pointer none, .int .i64 7]) ∧ Below w.heap.size w w' := by
  have hdl := World.block_lt_of_cell? _ _ c7
  have hgl := World.block_lt_of_cell? _ _ hg
  have hl : ∀ m, (Instr.lookup 47 (.map (some Nb)) (.string nm) true).run Tryz.prog ((w.alloc (.cells #[.slice (some ⟨g, 0, none⟩) 1 1, .bool true, .int .i64 0] 104)).drewN m) = .ok (.tuple #[.int .i64 n, .bool true]) ((w.alloc (.cells #[.slice (some ⟨g, 0, none⟩) 1 1, .bool true, .int .i64 0] 104)).drewN m) := fun m =>
    look_found (w := (w.alloc (.cells #[.slice (some ⟨g, 0, none⟩) 1 1, .bool true, .int .i64 0] 104)).drewN m) Tryz.underlying47 Tryz.underlying9 (hp_alloc hN _) (key_str nm) hf true
  clear hN hf
  go_enter Tryz.func69, Tryz.ntmps69
  go_wp2
  refine wp_loop_rounds 2 ?_
  rw [rounds_succ]
  go_wp2_with (go_at_call 89; refine (isName_any nm _ hs).mono ?_; rw [hok]; rintro e w' ⟨rfl, rfl⟩)
  rw [rounds_succ]
  go_wp2
  go_quiet (fail)
  go_wp2
  go_ret2
  exact ⟨rfl, below_drewN ((Below.refl _ _).alloc (Nat.le_refl _) _) _⟩

set_option maxRecDepth 100000 in
set_option maxHeartbeats 1000000 in
theorem find_there (d g Nb L p : Nat) (nm : ByteArray) (es fs : Array MapEntry) (c c' i i' : Nat) (n sz : Int) (ao : Option Addr) (len cap : Nat) (w : World) (c7 : w.cell? ⟨d, 7, none⟩ = some (.bool false)) (c4 : w.cell? ⟨d, 4, none⟩ = some (.map (some Nb))) (c2 : w.cell? ⟨d, 2, none⟩ = some (.map (some L))) (hN : w.heap[Nb]? = some (.map es c)) (hL : w.heap[L]? = some (.map fs c')) (hg : w.cell? ⟨g, 0, none⟩ = some (.string nm)) (hok : nmOK nm = true) (hs : nm.size ≤ maxLen)
    (hf : Instr.findNow .string (.string nm) es.toList 0 = some (some (i, .int .i64 n))) (hf2 : Instr.findNow (.int .i64) (.int .i64 n) fs.toList 0 = some (some (i', .pointer (some ⟨p, 0, none⟩)))) (hp : w.cell? ⟨p, 2, none⟩ = some (.slice ao len cap)) (h0 : 0 ≤ sz) (h1 : sz ≤ len) :
    Calls Tryz.prog 69 #[.pointer (some ⟨d, 0, none⟩), .agg #[.slice (some ⟨g, 0, none⟩) 1 1, .bool false, .int .i64 sz]] w fun x w' => x = .returned (.tuple #[.pointer (some ⟨p, 0, none⟩), .int .i64 0]) ∧ Below w.heap.size w w' := by
  have hdl := World.block_lt_of_cell? _ _ c7
  have hgl := World.block_lt_of_cell? _ _ hg
  have hpl := World.block_lt_of_cell? _ _ hp
  have hl : ∀ m, (Instr.lookup 47 (.map (some Nb)) (.string nm) true).run Tryz.prog ((w.alloc (.cells #[.slice (some ⟨g, 0, none⟩) 1 1, .bool false, .int .i64 sz] 104)).drewN m) = .ok (.tuple #[.int .i64 n, .bool true]) ((w.alloc (.cells #[.slice (some ⟨g, 0, none⟩) 1 1, .bool false, .int .i64 sz] 104)).drewN m) := fun m =>
    look_found (w := (w.alloc (.cells #[.slice (some ⟨g, 0, none⟩) 1 1, .bool false, .int .i64 sz] 104)).drewN m) Tryz.underlying47 Tryz.underlying9 (hp_alloc hN _) (key_str nm) hf true
  have hl2 : ∀ m, (Instr.lookup 46 (.map (some L)) (.int .i64 n) false).run Tryz.prog ((w.alloc (.cells #[.slice (some ⟨g, 0, none⟩) 1 1, .bool false, .int .i64 sz] 104)).drewN m) = .ok (.pointer (some ⟨p, 0, none⟩)) ((w.alloc (.cells #[.slice (some ⟨g, 0, none⟩) 1 1, .bool false, .int .i64 sz] 104)).drewN m) := fun m =>
    look_found (w := (w.alloc (.cells #[.slice (some ⟨g, 0, none⟩) 1 1, .bool false, .int .i64 sz] 104)).drewN m) Tryz.underlying46 Tryz.underlying3 (hp_alloc hL _) (key_int n) hf2 false
  have j1 : decide (sz < 0) = false := by simp; omega
  have j2 : decide ((len : Int) < sz) = false := by simp; omega
  clear hN hf hL hf2
  go_enter Tryz.func69, Tryz.ntmps69
  go_wp2
  refine wp_loop_rounds 2 ?_
  rw [rounds_succ]
  go_wp2_with (go_at_call 89; refine (isName_any nm _ hs).mono ?_; rw [hok]; rintro e w' ⟨rfl, rfl⟩)
  rw [rounds_succ]
  go_wp2
  go_quiet (fail)
  go_wp2
  go_quiet (fail)
  go_wp2
  go_ret2
  exact ⟨rfl, below_drewN ((Below.refl _ _).alloc (Nat.le_refl _) _) _⟩

end Go.Proofs.YtlmompdfombgeaaGreat
