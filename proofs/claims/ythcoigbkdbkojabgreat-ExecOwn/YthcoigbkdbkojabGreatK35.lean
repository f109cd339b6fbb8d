import Derived.Test.YthcoigbkdbkojabGreatK32
set_option maxRecDepth 100000
namespace Go.Proofs.YthcoigbkdbkojabGreat
open Go.RowKit
set_option maxHeartbeats 6400000 in
theorem fmt11 (u : Nat) (h1 : u < 1000000000000) (w : World) (g cp : Nat) (t : TypeId) (r : List Int) (hg : w.heap[g]? = some (.cells (B8 ([0, 0, 0, 0, 0, 0, 0, 0, 0, 0, 0] ++ r)).toArray t (0, 0))) :
    Calls Tryz.prog 211 #[.slice (some ⟨g, 0, none⟩) 11 cp, .int .u64 u] w fun e w' => e = .returned (.tuple #[]) ∧ w'.heap[g]? = some (.cells (B8 ([48 + ((u / 100000000 / 100 : Nat) : Int), smb (u / 100000000 % 100 * 2), smb (u / 100000000 % 100 * 2 + 1), smb (u / 100 / 100 / 100 % 100 * 2), smb (u / 100 / 100 / 100 % 100 * 2 + 1), smb (u / 100 / 100 % 100 * 2), smb (u / 100 / 100 % 100 * 2 + 1), smb (u / 100 % 100 * 2), smb (u / 100 % 100 * 2 + 1), smb (u % 100 * 2), smb (u % 100 * 2 + 1)] ++ r)).toArray t (0, 0)) ∧ Kept (fun k => k = g) w w' := by
  have mixed : Tryz.prog.follows Departure.mixedOrders = true := by kernel_rfl
  have HG0 := hid hg
  have HK0 := hid (Kept.refl (fun k => k = g) w)
  clear hg
  have z0 : w.cell? ⟨g, 0, none⟩ = some (.int .u8 (0)) := by rw [cell_of_row w g 0 _ _ _ HG0.out]; rfl
  have z9 : w.cell? ⟨g, 9, none⟩ = some (.int .u8 (0)) := by rw [cell_of_row w g 9 _ _ _ HG0.out]; rfl
  have z10 : w.cell? ⟨g, 10, none⟩ = some (.int .u8 (0)) := by rw [cell_of_row w g 10 _ _ _ HG0.out]; rfl
  have ff : ∀ o, w.frozen? ⟨g, o, none⟩ = false := fun o => free_of_block HG0.out
  go_enter Tryz.func211, Tryz.ntmps211
  go_name_bytes SM hSM
  have eSM : SM = Lib.smalls := by rw [← hSM]; decide +kernel
  subst eSM
  clear hSM
  go_wp2
  refine wp_loop_rounds 2 ?_
  rw [rounds_succ]
  go_wp2
  go_name_slot 9 x0 hx0
  have hxe0 : x0 = ((u % 100 * 2 : Nat) : Int) := by omega
  have hXa0 : ∀ w, (Instr.index 9 (.string Lib.smalls) (.int .u32 (x0 + 1))).run Tryz.prog w = .ok (.int .u8 (smb (u % 100 * 2 + 1))) w := Lib.idx_smalls 9 Tryz.underlying9 .u32 _ _ (by omega) (by omega)
  have hXb0 : ∀ w, (Instr.index 9 (.string Lib.smalls) (.int .u32 x0)).run Tryz.prog w = .ok (.int .u8 (smb (u % 100 * 2))) w := Lib.idx_smalls 9 Tryz.underlying9 .u32 _ _ (by omega) (by omega)
  have hlo0 : 0 ≤ x0 := by omega
  have hhi0 : x0 ≤ 198 := by omega
  clear hx0 hxe0
  go_region_o
  go_wp2
  clear hXa0 hXb0
  go_name_world W1 hW1
  have HG1 := hid (show W1.heap[g]? = some (.cells (B8 ([0, 0, 0, 0, 0, 0, 0, 0, 0, smb (u % 100 * 2), smb (u % 100 * 2 + 1)] ++ r)).toArray t (0, 0)) by rw [← hW1]; simp [World.setCell, World.drew, Array.getElem?_modify, HG0.out, B8])
  have HK1 := hid (show Kept (fun k => k = g) w W1 by rw [← hW1]; repeat' (first | exact HK0.out | refine Kept.drew ?_ | refine kept_set ?_ _ _))
  clear hW1 z0 z9 z10 ff
  have ff : ∀ o, W1.frozen? ⟨g, o, none⟩ = false := fun o => free_of_block HG1.out
  have z0 : W1.cell? ⟨g, 0, none⟩ = some (.int .u8 (0)) := by rw [cell_of_row W1 g 0 _ _ _ HG1.out]; rfl
  have z7 : W1.cell? ⟨g, 7, none⟩ = some (.int .u8 (0)) := by rw [cell_of_row W1 g 7 _ _ _ HG1.out]; rfl
  have z8 : W1.cell? ⟨g, 8, none⟩ = some (.int .u8 (0)) := by rw [cell_of_row W1 g 8 _ _ _ HG1.out]; rfl
  go_name_slot 8 x1 hx1
  have hxe1 : x1 = ((u / 100 % 100 * 2 : Nat) : Int) := by omega
  have hXa1 : ∀ w, (Instr.index 9 (.string Lib.smalls) (.int .u32 (x1 + 1))).run Tryz.prog w = .ok (.int .u8 (smb (u / 100 % 100 * 2 + 1))) w := Lib.idx_smalls 9 Tryz.underlying9 .u32 _ _ (by omega) (by omega)
  have hXb1 : ∀ w, (Instr.index 9 (.string Lib.smalls) (.int .u32 x1)).run Tryz.prog w = .ok (.int .u8 (smb (u / 100 % 100 * 2))) w := Lib.idx_smalls 9 Tryz.underlying9 .u32 _ _ (by omega) (by omega)
  have hlo1 : 0 ≤ x1 := by omega
  have hhi1 : x1 ≤ 198 := by omega
  clear hx1 hxe1
  go_region_o
  go_wp2
  clear hXa1 hXb1
  go_name_world W2 hW2
  have HG2 := hid (show W2.heap[g]? = some (.cells (B8 ([0, 0, 0, 0, 0, 0, 0, smb (u / 100 % 100 * 2), smb (u / 100 % 100 * 2 + 1), smb (u % 100 * 2), smb (u % 100 * 2 + 1)] ++ r)).toArray t (0, 0)) by rw [← hW2]; simp [World.setCell, World.drew, Array.getElem?_modify, HG1.out, B8])
  have HK2 := hid (show Kept (fun k => k = g) w W2 by rw [← hW2]; repeat' (first | exact HK1.out | refine Kept.drew ?_ | refine kept_set ?_ _ _))
  clear hW2 z0 z7 z8 ff
  have ff : ∀ o, W2.frozen? ⟨g, o, none⟩ = false := fun o => free_of_block HG2.out
  have z0 : W2.cell? ⟨g, 0, none⟩ = some (.int .u8 (0)) := by rw [cell_of_row W2 g 0 _ _ _ HG2.out]; rfl
  have z5 : W2.cell? ⟨g, 5, none⟩ = some (.int .u8 (0)) := by rw [cell_of_row W2 g 5 _ _ _ HG2.out]; rfl
  have z6 : W2.cell? ⟨g, 6, none⟩ = some (.int .u8 (0)) := by rw [cell_of_row W2 g 6 _ _ _ HG2.out]; rfl
  go_name_slot 11 x2 hx2
  have hxe2 : x2 = ((u / 100 / 100 % 100 * 2 : Nat) : Int) := by omega
  have hXa2 : ∀ w, (Instr.index 9 (.string Lib.smalls) (.int .u32 (x2 + 1))).run Tryz.prog w = .ok (.int .u8 (smb (u / 100 / 100 % 100 * 2 + 1))) w := Lib.idx_smalls 9 Tryz.underlying9 .u32 _ _ (by omega) (by omega)
  have hXb2 : ∀ w, (Instr.index 9 (.string Lib.smalls) (.int .u32 x2)).run Tryz.prog w = .ok (.int .u8 (smb (u / 100 / 100 % 100 * 2))) w := Lib.idx_smalls 9 Tryz.underlying9 .u32 _ _ (by omega) (by omega)
  have hlo2 : 0 ≤ x2 := by omega
  have hhi2 : x2 ≤ 198 := by omega
  clear hx2 hxe2
  go_region_o
  go_wp2
  clear hXa2 hXb2
  go_name_world W3 hW3
  have HG3 := hid (show W3.heap[g]? = some (.cells (B8 ([0, 0, 0, 0, 0, smb (u / 100 / 100 % 100 * 2), smb (u / 100 / 100 % 100 * 2 + 1), smb (u / 100 % 100 * 2), smb (u / 100 % 100 * 2 + 1), smb (u % 100 * 2), smb (u % 100 * 2 + 1)] ++ r)).toArray t (0, 0)) by rw [← hW3]; simp [World.setCell, World.drew, Array.getElem?_modify, HG2.out, B8])
  have HK3 := hid (show Kept (fun k => k = g) w W3 by rw [← hW3]; repeat' (first | exact HK2.out | refine Kept.drew ?_ | refine kept_set ?_ _ _))
  clear hW3 z0 z5 z6 ff
  have ff : ∀ o, W3.frozen? ⟨g, o, none⟩ = false := fun o => free_of_block HG3.out
  have z0 : W3.cell? ⟨g, 0, none⟩ = some (.int .u8 (0)) := by rw [cell_of_row W3 g 0 _ _ _ HG3.out]; rfl
  have z3 : W3.cell? ⟨g, 3, none⟩ = some (.int .u8 (0)) := by rw [cell_of_row W3 g 3 _ _ _ HG3.out]; rfl
  have z4 : W3.cell? ⟨g, 4, none⟩ = some (.int .u8 (0)) := by rw [cell_of_row W3 g 4 _ _ _ HG3.out]; rfl
  go_name_slot 10 x3 hx3
  have hxe3 : x3 = ((u / 100 / 100 / 100 % 100 * 2 : Nat) : Int) := by omega
  have hXa3 : ∀ w, (Instr.index 9 (.string Lib.smalls) (.int .u32 (x3 + 1))).run Tryz.prog w = .ok (.int .u8 (smb (u / 100 / 100 / 100 % 100 * 2 + 1))) w := Lib.idx_smalls 9 Tryz.underlying9 .u32 _ _ (by omega) (by omega)
  have hXb3 : ∀ w, (Instr.index 9 (.string Lib.smalls) (.int .u32 x3)).run Tryz.prog w = .ok (.int .u8 (smb (u / 100 / 100 / 100 % 100 * 2))) w := Lib.idx_smalls 9 Tryz.underlying9 .u32 _ _ (by omega) (by omega)
  have hlo3 : 0 ≤ x3 := by omega
  have hhi3 : x3 ≤ 198 := by omega
  clear hx3 hxe3
  go_region_o
  go_wp2
  clear hXa3 hXb3
  rw [rounds_succ]
  go_wp2
  go_name_world W4 hW4
  have HG4 := hid (show W4.heap[g]? = some (.cells (B8 ([0, 0, 0, smb (u / 100 / 100 / 100 % 100 * 2), smb (u / 100 / 100 / 100 % 100 * 2 + 1), smb (u / 100 / 100 % 100 * 2), smb (u / 100 / 100 % 100 * 2 + 1), smb (u / 100 % 100 * 2), smb (u / 100 % 100 * 2 + 1), smb (u % 100 * 2), smb (u % 100 * 2 + 1)] ++ r)).toArray t (0, 0)) by rw [← hW4]; simp [World.setCell, World.drew, Array.getElem?_modify, HG3.out, B8])
  have HK4 := hid (show Kept (fun k => k = g) w W4 by rw [← hW4]; repeat' (first | exact HK3.out | refine Kept.drew ?_ | refine kept_set ?_ _ _))
  clear hW4 z0 z3 z4 ff
  have ff : ∀ o, W4.frozen? ⟨g, o, none⟩ = false := fun o => free_of_block HG4.out
  have z0 : W4.cell? ⟨g, 0, none⟩ = some (.int .u8 (0)) := by rw [cell_of_row W4 g 0 _ _ _ HG4.out]; rfl
  have z1 : W4.cell? ⟨g, 1, none⟩ = some (.int .u8 (0)) := by rw [cell_of_row W4 g 1 _ _ _ HG4.out]; rfl
  have z2 : W4.cell? ⟨g, 2, none⟩ = some (.int .u8 (0)) := by rw [cell_of_row W4 g 2 _ _ _ HG4.out]; rfl
  go_name_slot 16 x4 hx4
  have hxe4 : x4 = ((u / 100000000 % 100 * 2 : Nat) : Int) := by omega
  have hXa4 : ∀ w, (Instr.index 9 (.string Lib.smalls) (.int .u32 (x4 + 1))).run Tryz.prog w = .ok (.int .u8 (smb (u / 100000000 % 100 * 2 + 1))) w := Lib.idx_smalls 9 Tryz.underlying9 .u32 _ _ (by omega) (by omega)
  have hXb4 : ∀ w, (Instr.index 9 (.string Lib.smalls) (.int .u32 x4)).run Tryz.prog w = .ok (.int .u8 (smb (u / 100000000 % 100 * 2))) w := Lib.idx_smalls 9 Tryz.underlying9 .u32 _ _ (by omega) (by omega)
  have hlo4 : 0 ≤ x4 := by omega
  have hhi4 : x4 ≤ 198 := by omega
  clear hx4 hxe4
  go_region_o
  go_wp2
  clear hXa4 hXb4
  refine bodyPost_end (results_none Tryz.results211 _ _ _) rfl ?_
  refine ⟨rfl, ?_, ?_⟩
  · simp [World.setCell, World.drew, Array.getElem?_modify, HG4.out, B8]
  · repeat' (first | exact HK4.out | refine Kept.drew ?_ | refine kept_set ?_ _ _)
set_option maxHeartbeats 6400000 in
theorem fmt12 (u : Nat) (h1 : u < 10000000000000) (w : World) (g cp : Nat) (t : TypeId) (r : List Int) (hg : w.heap[g]? = some (.cells (B8 ([0, 0, 0, 0, 0, 0, 0, 0, 0, 0, 0, 0] ++ r)).toArray t (0, 0))) :
    Calls Tryz.prog 211 #[.slice (some ⟨g, 0, none⟩) 12 cp, .int .u64 u] w fun e w' => e = .returned (.tuple #[]) ∧ w'.heap[g]? = some (.cells (B8 ([smb (u / 100000000 / 100 % 100 * 2), smb (u / 100000000 / 100 % 100 * 2 + 1), smb (u / 100000000 % 100 * 2), smb (u / 100000000 % 100 * 2 + 1), smb (u / 100 / 100 / 100 % 100 * 2), smb (u / 100 / 100 / 100 % 100 * 2 + 1), smb (u / 100 / 100 % 100 * 2), smb (u / 100 / 100 % 100 * 2 + 1), smb (u / 100 % 100 * 2), smb (u / 100 % 100 * 2 + 1), smb (u % 100 * 2), smb (u % 100 * 2 + 1)] ++ r)).toArray t (0, 0)) ∧ Kept (fun k => k = g) w w' := by
  have mixed : Tryz.prog.follows Departure.mixedOrders = true := by kernel_rfl
  have HG0 := hid hg
  have HK0 := hid (Kept.refl (fun k => k = g) w)
  clear hg
  have z0 : w.cell? ⟨g, 0, none⟩ = some (.int .u8 (0)) := by rw [cell_of_row w g 0 _ _ _ HG0.out]; rfl
  have z10 : w.cell? ⟨g, 10, none⟩ = some (.int .u8 (0)) := by rw [cell_of_row w g 10 _ _ _ HG0.out]; rfl
  have z11 : w.cell? ⟨g, 11, none⟩ = some (.int .u8 (0)) := by rw [cell_of_row w g 11 _ _ _ HG0.out]; rfl
  have ff : ∀ o, w.frozen? ⟨g, o, none⟩ = false := fun o => free_of_block HG0.out
  go_enter Tryz.func211, Tryz.ntmps211
  go_name_bytes SM hSM
  have eSM : SM = Lib.smalls := by rw [← hSM]; decide +kernel
  subst eSM
  clear hSM
  go_wp2
  refine wp_loop_rounds 2 ?_
  rw [rounds_succ]
  go_wp2
  go_name_slot 9 x0 hx0
  have hxe0 : x0 = ((u % 100 * 2 : Nat) : Int) := by omega
  have hXa0 : ∀ w, (Instr.index 9 (.string Lib.smalls) (.int .u32 (x0 + 1))).run Tryz.prog w = .ok (.int .u8 (smb (u % 100 * 2 + 1))) w := Lib.idx_smalls 9 Tryz.underlying9 .u32 _ _ (by omega) (by omega)
  have hXb0 : ∀ w, (Instr.index 9 (.string Lib.smalls) (.int .u32 x0)).run Tryz.prog w = .ok (.int .u8 (smb (u % 100 * 2))) w := Lib.idx_smalls 9 Tryz.underlying9 .u32 _ _ (by omega) (by omega)
  have hlo0 : 0 ≤ x0 := by omega
  have hhi0 : x0 ≤ 198 := by omega
  clear hx0 hxe0
  go_region_o
  go_wp2
  clear hXa0 hXb0
  go_name_world W1 hW1
  have HG1 := hid (show W1.heap[g]? = some (.cells (B8 ([0, 0, 0, 0, 0, 0, 0, 0, 0, 0, smb (u % 100 * 2), smb (u % 100 * 2 + 1)] ++ r)).toArray t (0, 0)) by rw [← hW1]; simp [World.setCell, World.drew, Array.getElem?_modify, HG0.out, B8])
  have HK1 := hid (show Kept (fun k => k = g) w W1 by rw [← hW1]; repeat' (first | exact HK0.out | refine Kept.drew ?_ | refine kept_set ?_ _ _))
  clear hW1 z0 z10 z11 ff
  have ff : ∀ o, W1.frozen? ⟨g, o, none⟩ = false := fun o => free_of_block HG1.out
  have z0 : W1.cell? ⟨g, 0, none⟩ = some (.int .u8 (0)) := by rw [cell_of_row W1 g 0 _ _ _ HG1.out]; rfl
  have z8 : W1.cell? ⟨g, 8, none⟩ = some (.int .u8 (0)) := by rw [cell_of_row W1 g 8 _ _ _ HG1.out]; rfl
  have z9 : W1.cell? ⟨g, 9, none⟩ = some (.int .u8 (0)) := by rw [cell_of_row W1 g 9 _ _ _ HG1.out]; rfl
  go_name_slot 8 x1 hx1
  have hxe1 : x1 = ((u / 100 % 100 * 2 : Nat) : Int) := by omega
  have hXa1 : ∀ w, (Instr.index 9 (.string Lib.smalls) (.int .u32 (x1 + 1))).run Tryz.prog w = .ok (.int .u8 (smb (u / 100 % 100 * 2 + 1))) w := Lib.idx_smalls 9 Tryz.underlying9 .u32 _ _ (by omega) (by omega)
  have hXb1 : ∀ w, (Instr.index 9 (.string Lib.smalls) (.int .u32 x1)).run Tryz.prog w = .ok (.int .u8 (smb (u / 100 % 100 * 2))) w := Lib.idx_smalls 9 Tryz.underlying9 .u32 _ _ (by omega) (by omega)
  have hlo1 : 0 ≤ x1 := by omega
  have hhi1 : x1 ≤ 198 := by omega
  clear hx1 hxe1
  go_region_o
  go_wp2
  clear hXa1 hXb1
  go_name_world W2 hW2
  have HG2 := hid (show W2.heap[g]? = some (.cells (B8 ([0, 0, 0, 0, 0, 0, 0, 0, smb (u / 100 % 100 * 2), smb (u / 100 % 100 * 2 + 1), smb (u % 100 * 2), smb (u % 100 * 2 + 1)] ++ r)).toArray t (0, 0)) by rw [← hW2]; simp [World.setCell, World.drew, Array.getElem?_modify, HG1.out, B8])
  have HK2 := hid (show Kept (fun k => k = g) w W2 by rw [← hW2]; repeat' (first | exact HK1.out | refine Kept.drew ?_ | refine kept_set ?_ _ _))
  clear hW2 z0 z8 z9 ff
  have ff : ∀ o, W2.frozen? ⟨g, o, none⟩ = false := fun o => free_of_block HG2.out
  have z0 : W2.cell? ⟨g, 0, none⟩ = some (.int .u8 (0)) := by rw [cell_of_row W2 g 0 _ _ _ HG2.out]; rfl
  have z6 : W2.cell? ⟨g, 6, none⟩ = some (.int .u8 (0)) := by rw [cell_of_row W2 g 6 _ _ _ HG2.out]; rfl
  have z7 : W2.cell? ⟨g, 7, none⟩ = some (.int .u8 (0)) := by rw [cell_of_row W2 g 7 _ _ _ HG2.out]; rfl
  go_name_slot 11 x2 hx2
  have hxe2 : x2 = ((u / 100 / 100 % 100 * 2 : Nat) : Int) := by omega
  have hXa2 : ∀ w, (Instr.index 9 (.string Lib.smalls) (.int .u32 (x2 + 1))).run Tryz.prog w = .ok (.int .u8 (smb (u / 100 / 100 % 100 * 2 + 1))) w := Lib.idx_smalls 9 Tryz.underlying9 .u32 _ _ (by omega) (by omega)
  have hXb2 : ∀ w, (Instr.index 9 (.string Lib.smalls) (.int .u32 x2)).run Tryz.prog w = .ok (.int .u8 (smb (u / 100 / 100 % 100 * 2))) w := Lib.idx_smalls 9 Tryz.underlying9 .u32 _ _ (by omega) (by omega)
  have hlo2 : 0 ≤ x2 := by omega
  have hhi2 : x2 ≤ 198 := by omega
  clear hx2 hxe2
  go_region_o
  go_wp2
  clear hXa2 hXb2
  go_name_world W3 hW3
  have HG3 := hid (show W3.heap[g]? = some (.cells (B8 ([0, 0, 0, 0, 0, 0, smb (u / 100 / 100 % 100 * 2), smb (u / 100 / 100 % 100 * 2 + 1), smb (u / 100 % 100 * 2), smb (u / 100 % 100 * 2 + 1), smb (u % 100 * 2), smb (u % 100 * 2 + 1)] ++ r)).toArray t (0, 0)) by rw [← hW3]; simp [World.setCell, World.drew, Array.getElem?_modify, HG2.out, B8])
  have HK3 := hid (show Kept (fun k => k = g) w W3 by rw [← hW3]; repeat' (first | exact HK2.out | refine Kept.drew ?_ | refine kept_set ?_ _ _))
  clear hW3 z0 z6 z7 ff
  have ff : ∀ o, W3.frozen? ⟨g, o, none⟩ = false := fun o => free_of_block HG3.out
  have z0 : W3.cell? ⟨g, 0, none⟩ = some (.int .u8 (0)) := by rw [cell_of_row W3 g 0 _ _ _ HG3.out]; rfl
  have z4 : W3.cell? ⟨g, 4, none⟩ = some (.int .u8 (0)) := by rw [cell_of_row W3 g 4 _ _ _ HG3.out]; rfl
  have z5 : W3.cell? ⟨g, 5, none⟩ = some (.int .u8 (0)) := by rw [cell_of_row W3 g 5 _ _ _ HG3.out]; rfl
  go_name_slot 10 x3 hx3
  have hxe3 : x3 = ((u / 100 / 100 / 100 % 100 * 2 : Nat) : Int) := by omega
  have hXa3 : ∀ w, (Instr.index 9 (.string Lib.smalls) (.int .u32 (x3 + 1))).run Tryz.prog w = .ok (.int .u8 (smb (u / 100 / 100 / 100 % 100 * 2 + 1))) w := Lib.idx_smalls 9 Tryz.underlying9 .u32 _ _ (by omega) (by omega)
  have hXb3 : ∀ w, (Instr.index 9 (.string Lib.smalls) (.int .u32 x3)).run Tryz.prog w = .ok (.int .u8 (smb (u / 100 / 100 / 100 % 100 * 2))) w := Lib.idx_smalls 9 Tryz.underlying9 .u32 _ _ (by omega) (by omega)
  have hlo3 : 0 ≤ x3 := by omega
  have hhi3 : x3 ≤ 198 := by omega
  clear hx3 hxe3
  go_region_o
  go_wp2
  clear hXa3 hXb3
  rw [rounds_succ]
  go_wp2
  go_name_world W4 hW4
  have HG4 := hid (show W4.heap[g]? = some (.cells (B8 ([0, 0, 0, 0, smb (u / 100 / 100 / 100 % 100 * 2), smb (u / 100 / 100 / 100 % 100 * 2 + 1), smb (u / 100 / 100 % 100 * 2), smb (u / 100 / 100 % 100 * 2 + 1), smb (u / 100 % 100 * 2), smb (u / 100 % 100 * 2 + 1), smb (u % 100 * 2), smb (u % 100 * 2 + 1)] ++ r)).toArray t (0, 0)) by rw [← hW4]; simp [World.setCell, World.drew, Array.getElem?_modify, HG3.out, B8])
  have HK4 := hid (show Kept (fun k => k = g) w W4 by rw [← hW4]; repeat' (first | exact HK3.out | refine Kept.drew ?_ | refine kept_set ?_ _ _))
  clear hW4 z0 z4 z5 ff
  have ff : ∀ o, W4.frozen? ⟨g, o, none⟩ = false := fun o => free_of_block HG4.out
  have z0 : W4.cell? ⟨g, 0, none⟩ = some (.int .u8 (0)) := by rw [cell_of_row W4 g 0 _ _ _ HG4.out]; rfl
  have z2 : W4.cell? ⟨g, 2, none⟩ = some (.int .u8 (0)) := by rw [cell_of_row W4 g 2 _ _ _ HG4.out]; rfl
  have z3 : W4.cell? ⟨g, 3, none⟩ = some (.int .u8 (0)) := by rw [cell_of_row W4 g 3 _ _ _ HG4.out]; rfl
  go_name_slot 15 x4 hx4
  have hxe4 : x4 = ((u / 100000000 % 100 * 2 : Nat) : Int) := by omega
  have hXa4 : ∀ w, (Instr.index 9 (.string Lib.smalls) (.int .u32 (x4 + 1))).run Tryz.prog w = .ok (.int .u8 (smb (u / 100000000 % 100 * 2 + 1))) w := Lib.idx_smalls 9 Tryz.underlying9 .u32 _ _ (by omega) (by omega)
  have hXb4 : ∀ w, (Instr.index 9 (.string Lib.smalls) (.int .u32 x4)).run Tryz.prog w = .ok (.int .u8 (smb (u / 100000000 % 100 * 2))) w := Lib.idx_smalls 9 Tryz.underlying9 .u32 _ _ (by omega) (by omega)
  have hlo4 : 0 ≤ x4 := by omega
  have hhi4 : x4 ≤ 198 := by omega
  clear hx4 hxe4
  go_region_o
  go_wp2
  clear hXa4 hXb4
  go_name_world W5 hW5
  have HG5 := hid (show W5.heap[g]? = some (.cells (B8 ([0, 0, smb (u / 100000000 % 100 * 2), smb (u / 100000000 % 100 * 2 + 1), smb (u / 100 / 100 / 100 % 100 * 2), smb (u / 100 / 100 / 100 % 100 * 2 + 1), smb (u / 100 / 100 % 100 * 2), smb (u / 100 / 100 % 100 * 2 + 1), smb (u / 100 % 100 * 2), smb (u / 100 % 100 * 2 + 1), smb (u % 100 * 2), smb (u % 100 * 2 + 1)] ++ r)).toArray t (0, 0)) by rw [← hW5]; simp [World.setCell, World.drew, Array.getElem?_modify, HG4.out, B8])
  have HK5 := hid (show Kept (fun k => k = g) w W5 by rw [← hW5]; repeat' (first | exact HK4.out | refine Kept.drew ?_ | refine kept_set ?_ _ _))
  clear hW5 z0 z2 z3 ff
  have ff : ∀ o, W5.frozen? ⟨g, o, none⟩ = false := fun o => free_of_block HG5.out
  have z0 : W5.cell? ⟨g, 0, none⟩ = some (.int .u8 (0)) := by rw [cell_of_row W5 g 0 _ _ _ HG5.out]; rfl
  have z1 : W5.cell? ⟨g, 1, none⟩ = some (.int .u8 (0)) := by rw [cell_of_row W5 g 1 _ _ _ HG5.out]; rfl
  go_name_slot 14 x5 hx5
  have hxe5 : x5 = ((u / 100000000 / 100 % 100 * 2 : Nat) : Int) := by omega
  have hXa5 : ∀ w, (Instr.index 9 (.string Lib.smalls) (.int .u32 (x5 + 1))).run Tryz.prog w = .ok (.int .u8 (smb (u / 100000000 / 100 % 100 * 2 + 1))) w := Lib.idx_smalls 9 Tryz.underlying9 .u32 _ _ (by omega) (by omega)
  have hXb5 : ∀ w, (Instr.index 9 (.string Lib.smalls) (.int .u32 x5)).run Tryz.prog w = .ok (.int .u8 (smb (u / 100000000 / 100 % 100 * 2))) w := Lib.idx_smalls 9 Tryz.underlying9 .u32 _ _ (by omega) (by omega)
  have hlo5 : 0 ≤ x5 := by omega
  have hhi5 : x5 ≤ 198 := by omega
  clear hx5 hxe5
  go_region_o
  go_wp2
  clear hXa5 hXb5
  refine bodyPost_end (results_none Tryz.results211 _ _ _) rfl ?_
  refine ⟨rfl, ?_, ?_⟩
  · simp [World.setCell, World.drew, Array.getElem?_modify, HG5.out, B8]
  · repeat' (first | exact HK5.out | refine Kept.drew ?_ | refine kept_set ?_ _ _)
set_option maxHeartbeats 6400000 in
theorem fmt13 (u : Nat) (h1 : u < 100000000000000) (w : World) (g cp : Nat) (t : TypeId) (r : List Int) (hg : w.heap[g]? = some (.cells (B8 ([0, 0, 0, 0, 0, 0, 0, 0, 0, 0, 0, 0, 0] ++ r)).toArray t (0, 0))) :
    Calls Tryz.prog 211 #[.slice (some ⟨g, 0, none⟩) 13 cp, .int .u64 u] w fun e w' => e = .returned (.tuple #[]) ∧ w'.heap[g]? = some (.cells (B8 ([48 + ((u / 100000000 / 10000 : Nat) : Int), smb (u / 100000000 / 100 % 100 * 2), smb (u / 100000000 / 100 % 100 * 2 + 1), smb (u / 100000000 % 100 * 2), smb (u / 100000000 % 100 * 2 + 1), smb (u / 100 / 100 / 100 % 100 * 2), smb (u / 100 / 100 / 100 % 100 * 2 + 1), smb (u / 100 / 100 % 100 * 2), smb (u / 100 / 100 % 100 * 2 + 1), smb (u / 100 % 100 * 2), smb (u / 100 % 100 * 2 + 1), smb (u % 100 * 2), smb (u % 100 * 2 + 1)] ++ r)).toArray t (0, 0)) ∧ Kept (fun k => k = g) w w' := by
  have mixed : Tryz.prog.follows Departure.mixedOrders = true := by kernel_rfl
  have HG0 := hid hg
  have HK0 := hid (Kept.refl (fun k => k = g) w)
  clear hg
  have z0 : w.cell? ⟨g, 0, none⟩ = some (.int .u8 (0)) := by rw [cell_of_row w g 0 _ _ _ HG0.out]; rfl
  have z11 : w.cell? ⟨g, 11, none⟩ = some (.int .u8 (0)) := by rw [cell_of_row w g 11 _ _ _ HG0.out]; rfl
  have z12 : w.cell? ⟨g, 12, none⟩ = some (.int .u8 (0)) := by rw [cell_of_row w g 12 _ _ _ HG0.out]; rfl
  have ff : ∀ o, w.frozen? ⟨g, o, none⟩ = false := fun o => free_of_block HG0.out
  go_enter Tryz.func211, Tryz.ntmps211
  go_name_bytes SM hSM
  have eSM : SM = Lib.smalls := by rw [← hSM]; decide +kernel
  subst eSM
  clear hSM
  go_wp2
  refine wp_loop_rounds 2 ?_
  rw [rounds_succ]
  go_wp2
  go_name_slot 9 x0 hx0
  have hxe0 : x0 = ((u % 100 * 2 : Nat) : Int) := by omega
  have hXa0 : ∀ w, (Instr.index 9 (.string Lib.smalls) (.int .u32 (x0 + 1))).run Tryz.prog w = .ok (.int .u8 (smb (u % 100 * 2 + 1))) w := Lib.idx_smalls 9 Tryz.underlying9 .u32 _ _ (by omega) (by omega)
  have hXb0 : ∀ w, (Instr.index 9 (.string Lib.smalls) (.int .u32 x0)).run Tryz.prog w = .ok (.int .u8 (smb (u % 100 * 2))) w := Lib.idx_smalls 9 Tryz.underlying9 .u32 _ _ (by omega) (by omega)
  have hlo0 : 0 ≤ x0 := by omega
  have hhi0 : x0 ≤ 198 := by omega
  clear hx0 hxe0
  go_region_o
  go_wp2
  clear hXa0 hXb0
  go_name_world W1 hW1
  have HG1 := hid (show W1.heap[g]? = some (.cells (B8 ([0, 0, 0, 0, 0, 0, 0, 0, 0, 0, 0, smb (u % 100 * 2), smb (u % 100 * 2 + 1)] ++ r)).toArray t (0, 0)) by rw [← hW1]; simp [World.setCell, World.drew, Array.getElem?_modify, HG0.out, B8])
  have HK1 := hid (show Kept (fun k => k = g) w W1 by rw [← hW1]; repeat' (first | exact HK0.out | refine Kept.drew ?_ | refine kept_set ?_ _ _))
  clear hW1 z0 z11 z12 ff
  have ff : ∀ o, W1.frozen? ⟨g, o, none⟩ = false := fun o => free_of_block HG1.out
  have z0 : W1.cell? ⟨g, 0, none⟩ = some (.int .u8 (0)) := by rw [cell_of_row W1 g 0 _ _ _ HG1.out]; rfl
  have z9 : W1.cell? ⟨g, 9, none⟩ = some (.int .u8 (0)) := by rw [cell_of_row W1 g 9 _ _ _ HG1.out]; rfl
  have z10 : W1.cell? ⟨g, 10, none⟩ = some (.int .u8 (0)) := by rw [cell_of_row W1 g 10 _ _ _ HG1.out]; rfl
  go_name_slot 8 x1 hx1
  have hxe1 : x1 = ((u / 100 % 100 * 2 : Nat) : Int) := by omega
  have hXa1 : ∀ w, (Instr.index 9 (.string Lib.smalls) (.int .u32 (x1 + 1))).run Tryz.prog w = .ok (.int .u8 (smb (u / 100 % 100 * 2 + 1))) w := Lib.idx_smalls 9 Tryz.underlying9 .u32 _ _ (by omega) (by omega)
  have hXb1 : ∀ w, (Instr.index 9 (.string Lib.smalls) (.int .u32 x1)).run Tryz.prog w = .ok (.int .u8 (smb (u / 100 % 100 * 2))) w := Lib.idx_smalls 9 Tryz.underlying9 .u32 _ _ (by omega) (by omega)
  have hlo1 : 0 ≤ x1 := by omega
  have hhi1 : x1 ≤ 198 := by omega
  clear hx1 hxe1
  go_region_o
  go_wp2
  clear hXa1 hXb1
  go_name_world W2 hW2
  have HG2 := hid (show W2.heap[g]? = some (.cells (B8 ([0, 0, 0, 0, 0, 0, 0, 0, 0, smb (u / 100 % 100 * 2), smb (u / 100 % 100 * 2 + 1), smb (u % 100 * 2), smb (u % 100 * 2 + 1)] ++ r)).toArray t (0, 0)) by rw [← hW2]; simp [World.setCell, World.drew, Array.getElem?_modify, HG1.out, B8])
  have HK2 := hid (show Kept (fun k => k = g) w W2 by rw [← hW2]; repeat' (first | exact HK1.out | refine Kept.drew ?_ | refine kept_set ?_ _ _))
  clear hW2 z0 z9 z10 ff
  have ff : ∀ o, W2.frozen? ⟨g, o, none⟩ = false := fun o => free_of_block HG2.out
  have z0 : W2.cell? ⟨g, 0, none⟩ = some (.int .u8 (0)) := by rw [cell_of_row W2 g 0 _ _ _ HG2.out]; rfl
  have z7 : W2.cell? ⟨g, 7, none⟩ = some (.int .u8 (0)) := by rw [cell_of_row W2 g 7 _ _ _ HG2.out]; rfl
  have z8 : W2.cell? ⟨g, 8, none⟩ = some (.int .u8 (0)) := by rw [cell_of_row W2 g 8 _ _ _ HG2.out]; rfl
  go_name_slot 11 x2 hx2
  have hxe2 : x2 = ((u / 100 / 100 % 100 * 2 : Nat) : Int) := by omega
  have hXa2 : ∀ w, (Instr.index 9 (.string Lib.smalls) (.int .u32 (x2 + 1))).run Tryz.prog w = .ok (.int .u8 (smb (u / 100 / 100 % 100 * 2 + 1))) w := Lib.idx_smalls 9 Tryz.underlying9 .u32 _ _ (by omega) (by omega)
  have hXb2 : ∀ w, (Instr.index 9 (.string Lib.smalls) (.int .u32 x2)).run Tryz.prog w = .ok (.int .u8 (smb (u / 100 / 100 % 100 * 2))) w := Lib.idx_smalls 9 Tryz.underlying9 .u32 _ _ (by omega) (by omega)
  have hlo2 : 0 ≤ x2 := by omega
  have hhi2 : x2 ≤ 198 := by omega
  clear hx2 hxe2
  go_region_o
  go_wp2
  clear hXa2 hXb2
  go_name_world W3 hW3
  have HG3 := hid (show W3.heap[g]? = some (.cells (B8 ([0, 0, 0, 0, 0, 0, 0, smb (u / 100 / 100 % 100 * 2), smb (u / 100 / 100 % 100 * 2 + 1), smb (u / 100 % 100 * 2), smb (u / 100 % 100 * 2 + 1), smb (u % 100 * 2), smb (u % 100 * 2 + 1)] ++ r)).toArray t (0, 0)) by rw [← hW3]; simp [World.setCell, World.drew, Array.getElem?_modify, HG2.out, B8])
  have HK3 := hid (show Kept (fun k => k = g) w W3 by rw [← hW3]; repeat' (first | exact HK2.out | refine Kept.drew ?_ | refine kept_set ?_ _ _))
  clear hW3 z0 z7 z8 ff
  have ff : ∀ o, W3.frozen? ⟨g, o, none⟩ = false := fun o => free_of_block HG3.out
  have z0 : W3.cell? ⟨g, 0, none⟩ = some (.int .u8 (0)) := by rw [cell_of_row W3 g 0 _ _ _ HG3.out]; rfl
  have z5 : W3.cell? ⟨g, 5, none⟩ = some (.int .u8 (0)) := by rw [cell_of_row W3 g 5 _ _ _ HG3.out]; rfl
  have z6 : W3.cell? ⟨g, 6, none⟩ = some (.int .u8 (0)) := by rw [cell_of_row W3 g 6 _ _ _ HG3.out]; rfl
  go_name_slot 10 x3 hx3
  have hxe3 : x3 = ((u / 100 / 100 / 100 % 100 * 2 : Nat) : Int) := by omega
  have hXa3 : ∀ w, (Instr.index 9 (.string Lib.smalls) (.int .u32 (x3 + 1))).run Tryz.prog w = .ok (.int .u8 (smb (u / 100 / 100 / 100 % 100 * 2 + 1))) w := Lib.idx_smalls 9 Tryz.underlying9 .u32 _ _ (by omega) (by omega)
  have hXb3 : ∀ w, (Instr.index 9 (.string Lib.smalls) (.int .u32 x3)).run Tryz.prog w = .ok (.int .u8 (smb (u / 100 / 100 / 100 % 100 * 2))) w := Lib.idx_smalls 9 Tryz.underlying9 .u32 _ _ (by omega) (by omega)
  have hlo3 : 0 ≤ x3 := by omega
  have hhi3 : x3 ≤ 198 := by omega
  clear hx3 hxe3
  go_region_o
  go_wp2
  clear hXa3 hXb3
  rw [rounds_succ]
  go_wp2
  go_name_world W4 hW4
  have HG4 := hid (show W4.heap[g]? = some (.cells (B8 ([0, 0, 0, 0, 0, smb (u / 100 / 100 / 100 % 100 * 2), smb (u / 100 / 100 / 100 % 100 * 2 + 1), smb (u / 100 / 100 % 100 * 2), smb (u / 100 / 100 % 100 * 2 + 1), smb (u / 100 % 100 * 2), smb (u / 100 % 100 * 2 + 1), smb (u % 100 * 2), smb (u % 100 * 2 + 1)] ++ r)).toArray t (0, 0)) by rw [← hW4]; simp [World.setCell, World.drew, Array.getElem?_modify, HG3.out, B8])
  have HK4 := hid (show Kept (fun k => k = g) w W4 by rw [← hW4]; repeat' (first | exact HK3.out | refine Kept.drew ?_ | refine kept_set ?_ _ _))
  clear hW4 z0 z5 z6 ff
  have ff : ∀ o, W4.frozen? ⟨g, o, none⟩ = false := fun o => free_of_block HG4.out
  have z0 : W4.cell? ⟨g, 0, none⟩ = some (.int .u8 (0)) := by rw [cell_of_row W4 g 0 _ _ _ HG4.out]; rfl
  have z3 : W4.cell? ⟨g, 3, none⟩ = some (.int .u8 (0)) := by rw [cell_of_row W4 g 3 _ _ _ HG4.out]; rfl
  have z4 : W4.cell? ⟨g, 4, none⟩ = some (.int .u8 (0)) := by rw [cell_of_row W4 g 4 _ _ _ HG4.out]; rfl
  go_name_slot 15 x4 hx4
  have hxe4 : x4 = ((u / 100000000 % 100 * 2 : Nat) : Int) := by omega
  have hXa4 : ∀ w, (Instr.index 9 (.string Lib.smalls) (.int .u32 (x4 + 1))).run Tryz.prog w = .ok (.int .u8 (smb (u / 100000000 % 100 * 2 + 1))) w := Lib.idx_smalls 9 Tryz.underlying9 .u32 _ _ (by omega) (by omega)
  have hXb4 : ∀ w, (Instr.index 9 (.string Lib.smalls) (.int .u32 x4)).run Tryz.prog w = .ok (.int .u8 (smb (u / 100000000 % 100 * 2))) w := Lib.idx_smalls 9 Tryz.underlying9 .u32 _ _ (by omega) (by omega)
  have hlo4 : 0 ≤ x4 := by omega
  have hhi4 : x4 ≤ 198 := by omega
  clear hx4 hxe4
  go_region_o
  go_wp2
  clear hXa4 hXb4
  go_name_world W5 hW5
  have HG5 := hid (show W5.heap[g]? = some (.cells (B8 ([0, 0, 0, smb (u / 100000000 % 100 * 2), smb (u / 100000000 % 100 * 2 + 1), smb (u / 100 / 100 / 100 % 100 * 2), smb (u / 100 / 100 / 100 % 100 * 2 + 1), smb (u / 100 / 100 % 100 * 2), smb (u / 100 / 100 % 100 * 2 + 1), smb (u / 100 % 100 * 2), smb (u / 100 % 100 * 2 + 1), smb (u % 100 * 2), smb (u % 100 * 2 + 1)] ++ r)).toArray t (0, 0)) by rw [← hW5]; simp [World.setCell, World.drew, Array.getElem?_modify, HG4.out, B8])
  have HK5 := hid (show Kept (fun k => k = g) w W5 by rw [← hW5]; repeat' (first | exact HK4.out | refine Kept.drew ?_ | refine kept_set ?_ _ _))
  clear hW5 z0 z3 z4 ff
  have ff : ∀ o, W5.frozen? ⟨g, o, none⟩ = false := fun o => free_of_block HG5.out
  have z0 : W5.cell? ⟨g, 0, none⟩ = some (.int .u8 (0)) := by rw [cell_of_row W5 g 0 _ _ _ HG5.out]; rfl
  have z1 : W5.cell? ⟨g, 1, none⟩ = some (.int .u8 (0)) := by rw [cell_of_row W5 g 1 _ _ _ HG5.out]; rfl
  have z2 : W5.cell? ⟨g, 2, none⟩ = some (.int .u8 (0)) := by rw [cell_of_row W5 g 2 _ _ _ HG5.out]; rfl
  go_name_slot 14 x5 hx5
  have hxe5 : x5 = ((u / 100000000 / 100 % 100 * 2 : Nat) : Int) := by omega
  have hXa5 : ∀ w, (Instr.index 9 (.string Lib.smalls) (.int .u32 (x5 + 1))).run Tryz.prog w = .ok (.int .u8 (smb (u / 100000000 / 100 % 100 * 2 + 1))) w := Lib.idx_smalls 9 Tryz.underlying9 .u32 _ _ (by omega) (by omega)
  have hXb5 : ∀ w, (Instr.index 9 (.string Lib.smalls) (.int .u32 x5)).run Tryz.prog w = .ok (.int .u8 (smb (u / 100000000 / 100 % 100 * 2))) w := Lib.idx_smalls 9 Tryz.underlying9 .u32 _ _ (by omega) (by omega)
  have hlo5 : 0 ≤ x5 := by omega
  have hhi5 : x5 ≤ 198 := by omega
  clear hx5 hxe5
  go_region_o
  go_wp2
  clear hXa5 hXb5
  refine bodyPost_end (results_none Tryz.results211 _ _ _) rfl ?_
  refine ⟨rfl, ?_, ?_⟩
  · simp [World.setCell, World.drew, Array.getElem?_modify, HG5.out, B8]
  · repeat' (first | exact HK5.out | refine Kept.drew ?_ | refine kept_set ?_ _ _)
end Go.Proofs.YthcoigbkdbkojabGreat
