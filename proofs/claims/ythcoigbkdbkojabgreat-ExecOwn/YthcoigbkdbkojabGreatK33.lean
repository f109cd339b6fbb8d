import Derived.Test.YthcoigbkdbkojabGreatK32
set_option maxRecDepth 100000
namespace Go.Proofs.YthcoigbkdbkojabGreat
open Go.RowKit
set_option maxHeartbeats 6400000 in
theorem fmt3 (u : Nat) (h1 : u < 10000) (w : World) (g cp : Nat) (t : TypeId) (r : List Int) (hg : w.heap[g]? = some (.cells (B8 ([0, 0, 0] ++ r)).toArray t (0, 0))) :
    Calls Tryz.prog 211 #[.slice (some ⟨g, 0, none⟩) 3 cp, .int .u64 u] w fun e w' => e = .returned (.tuple #[]) ∧ w'.heap[g]? = some (.cells (B8 ([48 + ((u / 100 : Nat) : Int), smb (u % 100 * 2), smb (u % 100 * 2 + 1)] ++ r)).toArray t (0, 0)) ∧ Kept (fun k => k = g) w w' := by
  have mixed : Tryz.prog.follows Departure.mixedOrders = true := by kernel_rfl
  have HG0 := hid hg
  have HK0 := hid (Kept.refl (fun k => k = g) w)
  clear hg
  have z0 : w.cell? ⟨g, 0, none⟩ = some (.int .u8 (0)) := by rw [cell_of_row w g 0 _ _ _ HG0.out]; rfl
  have z1 : w.cell? ⟨g, 1, none⟩ = some (.int .u8 (0)) := by rw [cell_of_row w g 1 _ _ _ HG0.out]; rfl
  have z2 : w.cell? ⟨g, 2, none⟩ = some (.int .u8 (0)) := by rw [cell_of_row w g 2 _ _ _ HG0.out]; rfl
  have ff : ∀ o, w.frozen? ⟨g, o, none⟩ = false := fun o => free_of_block HG0.out
  go_enter Tryz.func211, Tryz.ntmps211
  go_name_bytes SM hSM
  have eSM : SM = Lib.smalls := by rw [← hSM]; decide +kernel
  subst eSM
  clear hSM
  go_wp2
  refine wp_loop_rounds 1 ?_
  rw [rounds_succ]
  go_wp2
  go_name_slot 16 x0 hx0
  have hxe0 : x0 = ((u % 100 * 2 : Nat) : Int) := by omega
  have hXa0 : ∀ w, (Instr.index 9 (.string Lib.smalls) (.int .u32 (x0 + 1))).run Tryz.prog w = .ok (.int .u8 (smb (u % 100 * 2 + 1))) w := Lib.idx_smalls 9 Tryz.underlying9 .u32 _ _ (by omega) (by omega)
  have hXb0 : ∀ w, (Instr.index 9 (.string Lib.smalls) (.int .u32 x0)).run Tryz.prog w = .ok (.int .u8 (smb (u % 100 * 2))) w := Lib.idx_smalls 9 Tryz.underlying9 .u32 _ _ (by omega) (by omega)
  have hlo0 : 0 ≤ x0 := by omega
  have hhi0 : x0 ≤ 198 := by omega
  clear hx0 hxe0
  go_region_o
  go_wp2
  clear hXa0 hXb0
  refine bodyPost_end (results_none Tryz.results211 _ _ _) rfl ?_
  refine ⟨rfl, ?_, ?_⟩
  · simp [World.setCell, World.drew, Array.getElem?_modify, HG0.out, B8]
  · repeat' (first | exact HK0.out | refine Kept.drew ?_ | refine kept_set ?_ _ _)
set_option maxHeartbeats 6400000 in
theorem fmt4 (u : Nat) (h1 : u < 100000) (w : World) (g cp : Nat) (t : TypeId) (r : List Int) (hg : w.heap[g]? = some (.cells (B8 ([0, 0, 0, 0] ++ r)).toArray t (0, 0))) :
    Calls Tryz.prog 211 #[.slice (some ⟨g, 0, none⟩) 4 cp, .int .u64 u] w fun e w' => e = .returned (.tuple #[]) ∧ w'.heap[g]? = some (.cells (B8 ([smb (u / 100 % 100 * 2), smb (u / 100 % 100 * 2 + 1), smb (u % 100 * 2), smb (u % 100 * 2 + 1)] ++ r)).toArray t (0, 0)) ∧ Kept (fun k => k = g) w w' := by
  have mixed : Tryz.prog.follows Departure.mixedOrders = true := by kernel_rfl
  have HG0 := hid hg
  have HK0 := hid (Kept.refl (fun k => k = g) w)
  clear hg
  have z0 : w.cell? ⟨g, 0, none⟩ = some (.int .u8 (0)) := by rw [cell_of_row w g 0 _ _ _ HG0.out]; rfl
  have z2 : w.cell? ⟨g, 2, none⟩ = some (.int .u8 (0)) := by rw [cell_of_row w g 2 _ _ _ HG0.out]; rfl
  have z3 : w.cell? ⟨g, 3, none⟩ = some (.int .u8 (0)) := by rw [cell_of_row w g 3 _ _ _ HG0.out]; rfl
  have ff : ∀ o, w.frozen? ⟨g, o, none⟩ = false := fun o => free_of_block HG0.out
  go_enter Tryz.func211, Tryz.ntmps211
  go_name_bytes SM hSM
  have eSM : SM = Lib.smalls := by rw [← hSM]; decide +kernel
  subst eSM
  clear hSM
  go_wp2
  refine wp_loop_rounds 1 ?_
  rw [rounds_succ]
  go_wp2
  go_name_slot 15 x0 hx0
  have hxe0 : x0 = ((u % 100 * 2 : Nat) : Int) := by omega
  have hXa0 : ∀ w, (Instr.index 9 (.string Lib.smalls) (.int .u32 (x0 + 1))).run Tryz.prog w = .ok (.int .u8 (smb (u % 100 * 2 + 1))) w := Lib.idx_smalls 9 Tryz.underlying9 .u32 _ _ (by omega) (by omega)
  have hXb0 : ∀ w, (Instr.index 9 (.string Lib.smalls) (.int .u32 x0)).run Tryz.prog w = .ok (.int .u8 (smb (u % 100 * 2))) w := Lib.idx_smalls 9 Tryz.underlying9 .u32 _ _ (by omega) (by omega)
  have hlo0 : 0 ≤ x0 := by omega
  have hhi0 : x0 ≤ 198 := by omega
  clear hx0 hxe0
  go_region_o
  go_wp2
  clear hXa0 hXb0
  go_name_world W1 hW1
  have HG1 := hid (show W1.heap[g]? = some (.cells (B8 ([0, 0, smb (u % 100 * 2), smb (u % 100 * 2 + 1)] ++ r)).toArray t (0, 0)) by rw [← hW1]; simp [World.setCell, World.drew, Array.getElem?_modify, HG0.out, B8])
  have HK1 := hid (show Kept (fun k => k = g) w W1 by rw [← hW1]; repeat' (first | exact HK0.out | refine Kept.drew ?_ | refine kept_set ?_ _ _))
  clear hW1 z0 z2 z3 ff
  have ff : ∀ o, W1.frozen? ⟨g, o, none⟩ = false := fun o => free_of_block HG1.out
  have z0 : W1.cell? ⟨g, 0, none⟩ = some (.int .u8 (0)) := by rw [cell_of_row W1 g 0 _ _ _ HG1.out]; rfl
  have z1 : W1.cell? ⟨g, 1, none⟩ = some (.int .u8 (0)) := by rw [cell_of_row W1 g 1 _ _ _ HG1.out]; rfl
  go_name_slot 14 x1 hx1
  have hxe1 : x1 = ((u / 100 % 100 * 2 : Nat) : Int) := by omega
  have hXa1 : ∀ w, (Instr.index 9 (.string Lib.smalls) (.int .u32 (x1 + 1))).run Tryz.prog w = .ok (.int .u8 (smb (u / 100 % 100 * 2 + 1))) w := Lib.idx_smalls 9 Tryz.underlying9 .u32 _ _ (by omega) (by omega)
  have hXb1 : ∀ w, (Instr.index 9 (.string Lib.smalls) (.int .u32 x1)).run Tryz.prog w = .ok (.int .u8 (smb (u / 100 % 100 * 2))) w := Lib.idx_smalls 9 Tryz.underlying9 .u32 _ _ (by omega) (by omega)
  have hlo1 : 0 ≤ x1 := by omega
  have hhi1 : x1 ≤ 198 := by omega
  clear hx1 hxe1
  go_region_o
  go_wp2
  clear hXa1 hXb1
  refine bodyPost_end (results_none Tryz.results211 _ _ _) rfl ?_
  refine ⟨rfl, ?_, ?_⟩
  · simp [World.setCell, World.drew, Array.getElem?_modify, HG1.out, B8]
  · repeat' (first | exact HK1.out | refine Kept.drew ?_ | refine kept_set ?_ _ _)
set_option maxHeartbeats 6400000 in
theorem fmt5 (u : Nat) (h1 : u < 1000000) (w : World) (g cp : Nat) (t : TypeId) (r : List Int) (hg : w.heap[g]? = some (.cells (B8 ([0, 0, 0, 0, 0] ++ r)).toArray t (0, 0))) :
    Calls Tryz.prog 211 #[.slice (some ⟨g, 0, none⟩) 5 cp, .int .u64 u] w fun e w' => e = .returned (.tuple #[]) ∧ w'.heap[g]? = some (.cells (B8 ([48 + ((u / 10000 : Nat) : Int), smb (u / 100 % 100 * 2), smb (u / 100 % 100 * 2 + 1), smb (u % 100 * 2), smb (u % 100 * 2 + 1)] ++ r)).toArray t (0, 0)) ∧ Kept (fun k => k = g) w w' := by
  have mixed : Tryz.prog.follows Departure.mixedOrders = true := by kernel_rfl
  have HG0 := hid hg
  have HK0 := hid (Kept.refl (fun k => k = g) w)
  clear hg
  have z0 : w.cell? ⟨g, 0, none⟩ = some (.int .u8 (0)) := by rw [cell_of_row w g 0 _ _ _ HG0.out]; rfl
  have z3 : w.cell? ⟨g, 3, none⟩ = some (.int .u8 (0)) := by rw [cell_of_row w g 3 _ _ _ HG0.out]; rfl
  have z4 : w.cell? ⟨g, 4, none⟩ = some (.int .u8 (0)) := by rw [cell_of_row w g 4 _ _ _ HG0.out]; rfl
  have ff : ∀ o, w.frozen? ⟨g, o, none⟩ = false := fun o => free_of_block HG0.out
  go_enter Tryz.func211, Tryz.ntmps211
  go_name_bytes SM hSM
  have eSM : SM = Lib.smalls := by rw [← hSM]; decide +kernel
  subst eSM
  clear hSM
  go_wp2
  refine wp_loop_rounds 1 ?_
  rw [rounds_succ]
  go_wp2
  go_name_slot 15 x0 hx0
  have hxe0 : x0 = ((u % 100 * 2 : Nat) : Int) := by omega
  have hXa0 : ∀ w, (Instr.index 9 (.string Lib.smalls) (.int .u32 (x0 + 1))).run Tryz.prog w = .ok (.int .u8 (smb (u % 100 * 2 + 1))) w := Lib.idx_smalls 9 Tryz.underlying9 .u32 _ _ (by omega) (by omega)
  have hXb0 : ∀ w, (Instr.index 9 (.string Lib.smalls) (.int .u32 x0)).run Tryz.prog w = .ok (.int .u8 (smb (u % 100 * 2))) w := Lib.idx_smalls 9 Tryz.underlying9 .u32 _ _ (by omega) (by omega)
  have hlo0 : 0 ≤ x0 := by omega
  have hhi0 : x0 ≤ 198 := by omega
  clear hx0 hxe0
  go_region_o
  go_wp2
  clear hXa0 hXb0
  go_name_world W1 hW1
  have HG1 := hid (show W1.heap[g]? = some (.cells (B8 ([0, 0, 0, smb (u % 100 * 2), smb (u % 100 * 2 + 1)] ++ r)).toArray t (0, 0)) by rw [← hW1]; simp [World.setCell, World.drew, Array.getElem?_modify, HG0.out, B8])
  have HK1 := hid (show Kept (fun k => k = g) w W1 by rw [← hW1]; repeat' (first | exact HK0.out | refine Kept.drew ?_ | refine kept_set ?_ _ _))
  clear hW1 z0 z3 z4 ff
  have ff : ∀ o, W1.frozen? ⟨g, o, none⟩ = false := fun o => free_of_block HG1.out
  have z0 : W1.cell? ⟨g, 0, none⟩ = some (.int .u8 (0)) := by rw [cell_of_row W1 g 0 _ _ _ HG1.out]; rfl
  have z1 : W1.cell? ⟨g, 1, none⟩ = some (.int .u8 (0)) := by rw [cell_of_row W1 g 1 _ _ _ HG1.out]; rfl
  have z2 : W1.cell? ⟨g, 2, none⟩ = some (.int .u8 (0)) := by rw [cell_of_row W1 g 2 _ _ _ HG1.out]; rfl
  go_name_slot 14 x1 hx1
  have hxe1 : x1 = ((u / 100 % 100 * 2 : Nat) : Int) := by omega
  have hXa1 : ∀ w, (Instr.index 9 (.string Lib.smalls) (.int .u32 (x1 + 1))).run Tryz.prog w = .ok (.int .u8 (smb (u / 100 % 100 * 2 + 1))) w := Lib.idx_smalls 9 Tryz.underlying9 .u32 _ _ (by omega) (by omega)
  have hXb1 : ∀ w, (Instr.index 9 (.string Lib.smalls) (.int .u32 x1)).run Tryz.prog w = .ok (.int .u8 (smb (u / 100 % 100 * 2))) w := Lib.idx_smalls 9 Tryz.underlying9 .u32 _ _ (by omega) (by omega)
  have hlo1 : 0 ≤ x1 := by omega
  have hhi1 : x1 ≤ 198 := by omega
  clear hx1 hxe1
  go_region_o
  go_wp2
  clear hXa1 hXb1
  refine bodyPost_end (results_none Tryz.results211 _ _ _) rfl ?_
  refine ⟨rfl, ?_, ?_⟩
  · simp [World.setCell, World.drew, Array.getElem?_modify, HG1.out, B8]
  · repeat' (first | exact HK1.out | refine Kept.drew ?_ | refine kept_set ?_ _ _)
set_option maxHeartbeats 6400000 in
theorem fmt6 (u : Nat) (h1 : u < 10000000) (w : World) (g cp : Nat) (t : TypeId) (r : List Int) (hg : w.heap[g]? = some (.cells (B8 ([0, 0, 0, 0, 0, 0] ++ r)).toArray t (0, 0))) :
    Calls Tryz.prog 211 #[.slice (some ⟨g, 0, none⟩) 6 cp, .int .u64 u] w fun e w' => e = .returned (.tuple #[]) ∧ w'.heap[g]? = some (.cells (B8 ([smb (u / 10000 % 100 * 2), smb (u / 10000 % 100 * 2 + 1), smb (u / 100 % 100 * 2), smb (u / 100 % 100 * 2 + 1), smb (u % 100 * 2), smb (u % 100 * 2 + 1)] ++ r)).toArray t (0, 0)) ∧ Kept (fun k => k = g) w w' := by
  have mixed : Tryz.prog.follows Departure.mixedOrders = true := by kernel_rfl
  have HG0 := hid hg
  have HK0 := hid (Kept.refl (fun k => k = g) w)
  clear hg
  have z0 : w.cell? ⟨g, 0, none⟩ = some (.int .u8 (0)) := by rw [cell_of_row w g 0 _ _ _ HG0.out]; rfl
  have z4 : w.cell? ⟨g, 4, none⟩ = some (.int .u8 (0)) := by rw [cell_of_row w g 4 _ _ _ HG0.out]; rfl
  have z5 : w.cell? ⟨g, 5, none⟩ = some (.int .u8 (0)) := by rw [cell_of_row w g 5 _ _ _ HG0.out]; rfl
  have ff : ∀ o, w.frozen? ⟨g, o, none⟩ = false := fun o => free_of_block HG0.out
  go_enter Tryz.func211, Tryz.ntmps211
  go_name_bytes SM hSM
  have eSM : SM = Lib.smalls := by rw [← hSM]; decide +kernel
  subst eSM
  clear hSM
  go_wp2
  refine wp_loop_rounds 1 ?_
  rw [rounds_succ]
  go_wp2
  go_name_slot 15 x0 hx0
  have hxe0 : x0 = ((u % 100 * 2 : Nat) : Int) := by omega
  have hXa0 : ∀ w, (Instr.index 9 (.string Lib.smalls) (.int .u32 (x0 + 1))).run Tryz.prog w = .ok (.int .u8 (smb (u % 100 * 2 + 1))) w := Lib.idx_smalls 9 Tryz.underlying9 .u32 _ _ (by omega) (by omega)
  have hXb0 : ∀ w, (Instr.index 9 (.string Lib.smalls) (.int .u32 x0)).run Tryz.prog w = .ok (.int .u8 (smb (u % 100 * 2))) w := Lib.idx_smalls 9 Tryz.underlying9 .u32 _ _ (by omega) (by omega)
  have hlo0 : 0 ≤ x0 := by omega
  have hhi0 : x0 ≤ 198 := by omega
  clear hx0 hxe0
  go_region_o
  go_wp2
  clear hXa0 hXb0
  go_name_world W1 hW1
  have HG1 := hid (show W1.heap[g]? = some (.cells (B8 ([0, 0, 0, 0, smb (u % 100 * 2), smb (u % 100 * 2 + 1)] ++ r)).toArray t (0, 0)) by rw [← hW1]; simp [World.setCell, World.drew, Array.getElem?_modify, HG0.out, B8])
  have HK1 := hid (show Kept (fun k => k = g) w W1 by rw [← hW1]; repeat' (first | exact HK0.out | refine Kept.drew ?_ | refine kept_set ?_ _ _))
  clear hW1 z0 z4 z5 ff
  have ff : ∀ o, W1.frozen? ⟨g, o, none⟩ = false := fun o => free_of_block HG1.out
  have z0 : W1.cell? ⟨g, 0, none⟩ = some (.int .u8 (0)) := by rw [cell_of_row W1 g 0 _ _ _ HG1.out]; rfl
  have z2 : W1.cell? ⟨g, 2, none⟩ = some (.int .u8 (0)) := by rw [cell_of_row W1 g 2 _ _ _ HG1.out]; rfl
  have z3 : W1.cell? ⟨g, 3, none⟩ = some (.int .u8 (0)) := by rw [cell_of_row W1 g 3 _ _ _ HG1.out]; rfl
  go_name_slot 14 x1 hx1
  have hxe1 : x1 = ((u / 100 % 100 * 2 : Nat) : Int) := by omega
  have hXa1 : ∀ w, (Instr.index 9 (.string Lib.smalls) (.int .u32 (x1 + 1))).run Tryz.prog w = .ok (.int .u8 (smb (u / 100 % 100 * 2 + 1))) w := Lib.idx_smalls 9 Tryz.underlying9 .u32 _ _ (by omega) (by omega)
  have hXb1 : ∀ w, (Instr.index 9 (.string Lib.smalls) (.int .u32 x1)).run Tryz.prog w = .ok (.int .u8 (smb (u / 100 % 100 * 2))) w := Lib.idx_smalls 9 Tryz.underlying9 .u32 _ _ (by omega) (by omega)
  have hlo1 : 0 ≤ x1 := by omega
  have hhi1 : x1 ≤ 198 := by omega
  clear hx1 hxe1
  go_region_o
  go_wp2
  clear hXa1 hXb1
  go_name_world W2 hW2
  have HG2 := hid (show W2.heap[g]? = some (.cells (B8 ([0, 0, smb (u / 100 % 100 * 2), smb (u / 100 % 100 * 2 + 1), smb (u % 100 * 2), smb (u % 100 * 2 + 1)] ++ r)).toArray t (0, 0)) by rw [← hW2]; simp [World.setCell, World.drew, Array.getElem?_modify, HG1.out, B8])
  have HK2 := hid (show Kept (fun k => k = g) w W2 by rw [← hW2]; repeat' (first | exact HK1.out | refine Kept.drew ?_ | refine kept_set ?_ _ _))
  clear hW2 z0 z2 z3 ff
  have ff : ∀ o, W2.frozen? ⟨g, o, none⟩ = false := fun o => free_of_block HG2.out
  have z0 : W2.cell? ⟨g, 0, none⟩ = some (.int .u8 (0)) := by rw [cell_of_row W2 g 0 _ _ _ HG2.out]; rfl
  have z1 : W2.cell? ⟨g, 1, none⟩ = some (.int .u8 (0)) := by rw [cell_of_row W2 g 1 _ _ _ HG2.out]; rfl
  go_name_slot 16 x2 hx2
  have hxe2 : x2 = ((u / 10000 % 100 * 2 : Nat) : Int) := by omega
  have hXa2 : ∀ w, (Instr.index 9 (.string Lib.smalls) (.int .u32 (x2 + 1))).run Tryz.prog w = .ok (.int .u8 (smb (u / 10000 % 100 * 2 + 1))) w := Lib.idx_smalls 9 Tryz.underlying9 .u32 _ _ (by omega) (by omega)
  have hXb2 : ∀ w, (Instr.index 9 (.string Lib.smalls) (.int .u32 x2)).run Tryz.prog w = .ok (.int .u8 (smb (u / 10000 % 100 * 2))) w := Lib.idx_smalls 9 Tryz.underlying9 .u32 _ _ (by omega) (by omega)
  have hlo2 : 0 ≤ x2 := by omega
  have hhi2 : x2 ≤ 198 := by omega
  clear hx2 hxe2
  go_region_o
  go_wp2
  clear hXa2 hXb2
  refine bodyPost_end (results_none Tryz.results211 _ _ _) rfl ?_
  refine ⟨rfl, ?_, ?_⟩
  · simp [World.setCell, World.drew, Array.getElem?_modify, HG2.out, B8]
  · repeat' (first | exact HK2.out | refine Kept.drew ?_ | refine kept_set ?_ _ _)
set_option maxHeartbeats 6400000 in
theorem fmt7 (u : Nat) (h1 : u < 100000000) (w : World) (g cp : Nat) (t : TypeId) (r : List Int) (hg : w.heap[g]? = some (.cells (B8 ([0, 0, 0, 0, 0, 0, 0] ++ r)).toArray t (0, 0))) :
    Calls Tryz.prog 211 #[.slice (some ⟨g, 0, none⟩) 7 cp, .int .u64 u] w fun e w' => e = .returned (.tuple #[]) ∧ w'.heap[g]? = some (.cells (B8 ([48 + ((u / 10000 / 100 : Nat) : Int), smb (u / 10000 % 100 * 2), smb (u / 10000 % 100 * 2 + 1), smb (u / 100 % 100 * 2), smb (u / 100 % 100 * 2 + 1), smb (u % 100 * 2), smb (u % 100 * 2 + 1)] ++ r)).toArray t (0, 0)) ∧ Kept (fun k => k = g) w w' := by
  have mixed : Tryz.prog.follows Departure.mixedOrders = true := by kernel_rfl
  have HG0 := hid hg
  have HK0 := hid (Kept.refl (fun k => k = g) w)
  clear hg
  have z0 : w.cell? ⟨g, 0, none⟩ = some (.int .u8 (0)) := by rw [cell_of_row w g 0 _ _ _ HG0.out]; rfl
  have z5 : w.cell? ⟨g, 5, none⟩ = some (.int .u8 (0)) := by rw [cell_of_row w g 5 _ _ _ HG0.out]; rfl
  have z6 : w.cell? ⟨g, 6, none⟩ = some (.int .u8 (0)) := by rw [cell_of_row w g 6 _ _ _ HG0.out]; rfl
  have ff : ∀ o, w.frozen? ⟨g, o, none⟩ = false := fun o => free_of_block HG0.out
  go_enter Tryz.func211, Tryz.ntmps211
  go_name_bytes SM hSM
  have eSM : SM = Lib.smalls := by rw [← hSM]; decide +kernel
  subst eSM
  clear hSM
  go_wp2
  refine wp_loop_rounds 1 ?_
  rw [rounds_succ]
  go_wp2
  go_name_slot 15 x0 hx0
  have hxe0 : x0 = ((u % 100 * 2 : Nat) : Int) := by omega
  have hXa0 : ∀ w, (Instr.index 9 (.string Lib.smalls) (.int .u32 (x0 + 1))).run Tryz.prog w = .ok (.int .u8 (smb (u % 100 * 2 + 1))) w := Lib.idx_smalls 9 Tryz.underlying9 .u32 _ _ (by omega) (by omega)
  have hXb0 : ∀ w, (Instr.index 9 (.string Lib.smalls) (.int .u32 x0)).run Tryz.prog w = .ok (.int .u8 (smb (u % 100 * 2))) w := Lib.idx_smalls 9 Tryz.underlying9 .u32 _ _ (by omega) (by omega)
  have hlo0 : 0 ≤ x0 := by omega
  have hhi0 : x0 ≤ 198 := by omega
  clear hx0 hxe0
  go_region_o
  go_wp2
  clear hXa0 hXb0
  go_name_world W1 hW1
  have HG1 := hid (show W1.heap[g]? = some (.cells (B8 ([0, 0, 0, 0, 0, smb (u % 100 * 2), smb (u % 100 * 2 + 1)] ++ r)).toArray t (0, 0)) by rw [← hW1]; simp [World.setCell, World.drew, Array.getElem?_modify, HG0.out, B8])
  have HK1 := hid (show Kept (fun k => k = g) w W1 by rw [← hW1]; repeat' (first | exact HK0.out | refine Kept.drew ?_ | refine kept_set ?_ _ _))
  clear hW1 z0 z5 z6 ff
  have ff : ∀ o, W1.frozen? ⟨g, o, none⟩ = false := fun o => free_of_block HG1.out
  have z0 : W1.cell? ⟨g, 0, none⟩ = some (.int .u8 (0)) := by rw [cell_of_row W1 g 0 _ _ _ HG1.out]; rfl
  have z3 : W1.cell? ⟨g, 3, none⟩ = some (.int .u8 (0)) := by rw [cell_of_row W1 g 3 _ _ _ HG1.out]; rfl
  have z4 : W1.cell? ⟨g, 4, none⟩ = some (.int .u8 (0)) := by rw [cell_of_row W1 g 4 _ _ _ HG1.out]; rfl
  go_name_slot 14 x1 hx1
  have hxe1 : x1 = ((u / 100 % 100 * 2 : Nat) : Int) := by omega
  have hXa1 : ∀ w, (Instr.index 9 (.string Lib.smalls) (.int .u32 (x1 + 1))).run Tryz.prog w = .ok (.int .u8 (smb (u / 100 % 100 * 2 + 1))) w := Lib.idx_smalls 9 Tryz.underlying9 .u32 _ _ (by omega) (by omega)
  have hXb1 : ∀ w, (Instr.index 9 (.string Lib.smalls) (.int .u32 x1)).run Tryz.prog w = .ok (.int .u8 (smb (u / 100 % 100 * 2))) w := Lib.idx_smalls 9 Tryz.underlying9 .u32 _ _ (by omega) (by omega)
  have hlo1 : 0 ≤ x1 := by omega
  have hhi1 : x1 ≤ 198 := by omega
  clear hx1 hxe1
  go_region_o
  go_wp2
  clear hXa1 hXb1
  go_name_world W2 hW2
  have HG2 := hid (show W2.heap[g]? = some (.cells (B8 ([0, 0, 0, smb (u / 100 % 100 * 2), smb (u / 100 % 100 * 2 + 1), smb (u % 100 * 2), smb (u % 100 * 2 + 1)] ++ r)).toArray t (0, 0)) by rw [← hW2]; simp [World.setCell, World.drew, Array.getElem?_modify, HG1.out, B8])
  have HK2 := hid (show Kept (fun k => k = g) w W2 by rw [← hW2]; repeat' (first | exact HK1.out | refine Kept.drew ?_ | refine kept_set ?_ _ _))
  clear hW2 z0 z3 z4 ff
  have ff : ∀ o, W2.frozen? ⟨g, o, none⟩ = false := fun o => free_of_block HG2.out
  have z0 : W2.cell? ⟨g, 0, none⟩ = some (.int .u8 (0)) := by rw [cell_of_row W2 g 0 _ _ _ HG2.out]; rfl
  have z1 : W2.cell? ⟨g, 1, none⟩ = some (.int .u8 (0)) := by rw [cell_of_row W2 g 1 _ _ _ HG2.out]; rfl
  have z2 : W2.cell? ⟨g, 2, none⟩ = some (.int .u8 (0)) := by rw [cell_of_row W2 g 2 _ _ _ HG2.out]; rfl
  go_name_slot 16 x2 hx2
  have hxe2 : x2 = ((u / 10000 % 100 * 2 : Nat) : Int) := by omega
  have hXa2 : ∀ w, (Instr.index 9 (.string Lib.smalls) (.int .u32 (x2 + 1))).run Tryz.prog w = .ok (.int .u8 (smb (u / 10000 % 100 * 2 + 1))) w := Lib.idx_smalls 9 Tryz.underlying9 .u32 _ _ (by omega) (by omega)
  have hXb2 : ∀ w, (Instr.index 9 (.string Lib.smalls) (.int .u32 x2)).run Tryz.prog w = .ok (.int .u8 (smb (u / 10000 % 100 * 2))) w := Lib.idx_smalls 9 Tryz.underlying9 .u32 _ _ (by omega) (by omega)
  have hlo2 : 0 ≤ x2 := by omega
  have hhi2 : x2 ≤ 198 := by omega
  clear hx2 hxe2
  go_region_o
  go_wp2
  clear hXa2 hXb2
  refine bodyPost_end (results_none Tryz.results211 _ _ _) rfl ?_
  refine ⟨rfl, ?_, ?_⟩
  · simp [World.setCell, World.drew, Array.getElem?_modify, HG2.out, B8]
  · repeat' (first | exact HK2.out | refine Kept.drew ?_ | refine kept_set ?_ _ _)
end Go.Proofs.YthcoigbkdbkojabGreat
