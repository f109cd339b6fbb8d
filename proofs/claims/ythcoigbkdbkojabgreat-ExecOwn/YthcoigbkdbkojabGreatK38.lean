import Derived.Test.YthcoigbkdbkojabGreatK32
set_option maxRecDepth 100000
namespace Go.Proofs.YthcoigbkdbkojabGreat
open Go.RowKit
set_option maxHeartbeats 6400000 in
theorem fmt18 (u : Nat) (h1 : u < 10000000000000000000) (w : World) (g cp : Nat) (t : TypeId) (r : List Int) (hg : w.heap[g]? = some (.cells (B8 ([0, 0, 0, 0, 0, 0, 0, 0, 0, 0, 0, 0, 0, 0, 0, 0, 0, 0] ++ r)).toArray t (0, 0))) :
    Calls Tryz.prog 211 #[.slice (some ⟨g, 0, none⟩) 18 cp, .int .u64 u] w fun e w' => e = .returned (.tuple #[]) ∧ w'.heap[g]? = some (.cells (B8 ([smb (u / 100000000 / 100000000 % 100 * 2), smb (u / 100000000 / 100000000 % 100 * 2 + 1), smb (u / 100000000 / 100 / 100 / 100 % 100 * 2), smb (u / 100000000 / 100 / 100 / 100 % 100 * 2 + 1), smb (u / 100000000 / 100 / 100 % 100 * 2), smb (u / 100000000 / 100 / 100 % 100 * 2 + 1), smb (u / 100000000 / 100 % 100 * 2), smb (u / 100000000 / 100 % 100 * 2 + 1), smb (u / 100000000 % 100 * 2), smb (u / 100000000 % 100 * 2 + 1), smb (u / 100 / 100 / 100 % 100 * 2), smb (u / 100 / 100 / 100 % 100 * 2 + 1), smb (u / 100 / 100 % 100 * 2), smb (u / 100 / 100 % 100 * 2 + 1), smb (u / 100 % 100 * 2), smb (u / 100 % 100 * 2 + 1), smb (u % 100 * 2), smb (u % 100 * 2 + 1)] ++ r)).toArray t (0, 0)) ∧ Kept (fun k => k = g) w w' := by
  have mixed : Tryz.prog.follows Departure.mixedOrders = true := by kernel_rfl
  have HG0 := hid hg
  have HK0 := hid (Kept.refl (fun k => k = g) w)
  clear hg
  have z0 : w.cell? ⟨g, 0, none⟩ = some (.int .u8 (0)) := by rw [cell_of_row w g 0 _ _ _ HG0.out]; rfl
  have z16 : w.cell? ⟨g, 16, none⟩ = some (.int .u8 (0)) := by rw [cell_of_row w g 16 _ _ _ HG0.out]; rfl
  have z17 : w.cell? ⟨g, 17, none⟩ = some (.int .u8 (0)) := by rw [cell_of_row w g 17 _ _ _ HG0.out]; rfl
  have ff : ∀ o, w.frozen? ⟨g, o, none⟩ = false := fun o => free_of_block HG0.out
  go_enter Tryz.func211, Tryz.ntmps211
  go_name_bytes SM hSM
  have eSM : SM = Lib.smalls := by rw [← hSM]; decide +kernel
  subst eSM
  clear hSM
  go_wp2
  refine wp_loop_rounds 3 ?_
  rw [rounds_succ]
  go_wp2
  go_name_slot 9 x0 hx0
  have hxe0 : x0 = ((u % 100 * 2 : Nat) : Int) := by omega
  have hXa0 : ∀ w, (Instr.index 9 (.string Lib.smalls) (.int .u32 (x0 + 1))).run Tryz.prog w = .ok (.int .u8 (smb (u % 100 * 2 + 1))) w := Lib.idx_smalls 9 Tryz.underlying9 .u32 _ _ (by omega) (by omega)
  have hXb0 : ∀ w, (Instr.index 9 (.string Lib.smalls) (.int .u32 x0)).run Tryz.prog w = .ok (.int .u8 (smb (u % 100 * 2))) w := Lib.idx_smalls 9 Tryz.underlying9 .u32 _ _ (by omega) (by omega)
  have hlo0 : 0 ≤ x0 := by omega
  have hhi0 : x0 ≤ 198 := by omega
  clear hx0 hxe0
  go_region_o
  go_wp2
  clear hXa0 hXb0
  go_name_world W1 hW1
  have HG1 := hid (show W1.heap[g]? = some (.cells (B8 ([0, 0, 0, 0, 0, 0, 0, 0, 0, 0, 0, 0, 0, 0, 0, 0, smb (u % 100 * 2), smb (u % 100 * 2 + 1)] ++ r)).toArray t (0, 0)) by rw [← hW1]; simp [World.setCell, World.drew, Array.getElem?_modify, HG0.out, B8])
  have HK1 := hid (show Kept (fun k => k = g) w W1 by rw [← hW1]; repeat' (first | exact HK0.out | refine Kept.drew ?_ | refine kept_set ?_ _ _))
  clear hW1 z0 z16 z17 ff
  as_aux_lemma =>
  have ff : ∀ o, W1.frozen? ⟨g, o, none⟩ = false := fun o => free_of_block HG1.out
  have z0 : W1.cell? ⟨g, 0, none⟩ = some (.int .u8 (0)) := by rw [cell_of_row W1 g 0 _ _ _ HG1.out]; rfl
  have z14 : W1.cell? ⟨g, 14, none⟩ = some (.int .u8 (0)) := by rw [cell_of_row W1 g 14 _ _ _ HG1.out]; rfl
  have z15 : W1.cell? ⟨g, 15, none⟩ = some (.int .u8 (0)) := by rw [cell_of_row W1 g 15 _ _ _ HG1.out]; rfl
  go_name_slot 8 x1 hx1
  have hxe1 : x1 = ((u / 100 % 100 * 2 : Nat) : Int) := by omega
  have hXa1 : ∀ w, (Instr.index 9 (.string Lib.smalls) (.int .u32 (x1 + 1))).run Tryz.prog w = .ok (.int .u8 (smb (u / 100 % 100 * 2 + 1))) w := Lib.idx_smalls 9 Tryz.underlying9 .u32 _ _ (by omega) (by omega)
  have hXb1 : ∀ w, (Instr.index 9 (.string Lib.smalls) (.int .u32 x1)).run Tryz.prog w = .ok (.int .u8 (smb (u / 100 % 100 * 2))) w := Lib.idx_smalls 9 Tryz.underlying9 .u32 _ _ (by omega) (by omega)
  have hlo1 : 0 ≤ x1 := by omega
  have hhi1 : x1 ≤ 198 := by omega
  clear hx1 hxe1
  go_region_o
  go_wp2
  clear hXa1 hXb1
  go_name_world W2 hW2
  have HG2 := hid (show W2.heap[g]? = some (.cells (B8 ([0, 0, 0, 0, 0, 0, 0, 0, 0, 0, 0, 0, 0, 0, smb (u / 100 % 100 * 2), smb (u / 100 % 100 * 2 + 1), smb (u % 100 * 2), smb (u % 100 * 2 + 1)] ++ r)).toArray t (0, 0)) by rw [← hW2]; simp [World.setCell, World.drew, Array.getElem?_modify, HG1.out, B8])
  have HK2 := hid (show Kept (fun k => k = g) w W2 by rw [← hW2]; repeat' (first | exact HK1.out | refine Kept.drew ?_ | refine kept_set ?_ _ _))
  clear hW2 z0 z14 z15 ff
  as_aux_lemma =>
  have ff : ∀ o, W2.frozen? ⟨g, o, none⟩ = false := fun o => free_of_block HG2.out
  have z0 : W2.cell? ⟨g, 0, none⟩ = some (.int .u8 (0)) := by rw [cell_of_row W2 g 0 _ _ _ HG2.out]; rfl
  have z12 : W2.cell? ⟨g, 12, none⟩ = some (.int .u8 (0)) := by rw [cell_of_row W2 g 12 _ _ _ HG2.out]; rfl
  have z13 : W2.cell? ⟨g, 13, none⟩ = some (.int .u8 (0)) := by rw [cell_of_row W2 g 13 _ _ _ HG2.out]; rfl
  go_name_slot 11 x2 hx2
  have hxe2 : x2 = ((u / 100 / 100 % 100 * 2 : Nat) : Int) := by omega
  have hXa2 : ∀ w, (Instr.index 9 (.string Lib.smalls) (.int .u32 (x2 + 1))).run Tryz.prog w = .ok (.int .u8 (smb (u / 100 / 100 % 100 * 2 + 1))) w := Lib.idx_smalls 9 Tryz.underlying9 .u32 _ _ (by omega) (by omega)
  have hXb2 : ∀ w, (Instr.index 9 (.string Lib.smalls) (.int .u32 x2)).run Tryz.prog w = .ok (.int .u8 (smb (u / 100 / 100 % 100 * 2))) w := Lib.idx_smalls 9 Tryz.underlying9 .u32 _ _ (by omega) (by omega)
  have hlo2 : 0 ≤ x2 := by omega
  have hhi2 : x2 ≤ 198 := by omega
  clear hx2 hxe2
  go_region_o
  go_wp2
  clear hXa2 hXb2
  go_name_world W3 hW3
  have HG3 := hid (show W3.heap[g]? = some (.cells (B8 ([0, 0, 0, 0, 0, 0, 0, 0, 0, 0, 0, 0, smb (u / 100 / 100 % 100 * 2), smb (u / 100 / 100 % 100 * 2 + 1), smb (u / 100 % 100 * 2), smb (u / 100 % 100 * 2 + 1), smb (u % 100 * 2), smb (u % 100 * 2 + 1)] ++ r)).toArray t (0, 0)) by rw [← hW3]; simp [World.setCell, World.drew, Array.getElem?_modify, HG2.out, B8])
  have HK3 := hid (show Kept (fun k => k = g) w W3 by rw [← hW3]; repeat' (first | exact HK2.out | refine Kept.drew ?_ | refine kept_set ?_ _ _))
  clear hW3 z0 z12 z13 ff
  as_aux_lemma =>
  have ff : ∀ o, W3.frozen? ⟨g, o, none⟩ = false := fun o => free_of_block HG3.out
  have z0 : W3.cell? ⟨g, 0, none⟩ = some (.int .u8 (0)) := by rw [cell_of_row W3 g 0 _ _ _ HG3.out]; rfl
  have z10 : W3.cell? ⟨g, 10, none⟩ = some (.int .u8 (0)) := by rw [cell_of_row W3 g 10 _ _ _ HG3.out]; rfl
  have z11 : W3.cell? ⟨g, 11, none⟩ = some (.int .u8 (0)) := by rw [cell_of_row W3 g 11 _ _ _ HG3.out]; rfl
  go_name_slot 10 x3 hx3
  have hxe3 : x3 = ((u / 100 / 100 / 100 % 100 * 2 : Nat) : Int) := by omega
  have hXa3 : ∀ w, (Instr.index 9 (.string Lib.smalls) (.int .u32 (x3 + 1))).run Tryz.prog w = .ok (.int .u8 (smb (u / 100 / 100 / 100 % 100 * 2 + 1))) w := Lib.idx_smalls 9 Tryz.underlying9 .u32 _ _ (by omega) (by omega)
  have hXb3 : ∀ w, (Instr.index 9 (.string Lib.smalls) (.int .u32 x3)).run Tryz.prog w = .ok (.int .u8 (smb (u / 100 / 100 / 100 % 100 * 2))) w := Lib.idx_smalls 9 Tryz.underlying9 .u32 _ _ (by omega) (by omega)
  have hlo3 : 0 ≤ x3 := by omega
  have hhi3 : x3 ≤ 198 := by omega
  clear hx3 hxe3
  go_region_o
  go_wp2
  clear hXa3 hXb3
  rw [rounds_succ]
  go_wp2
  go_name_world W4 hW4
  have HG4 := hid (show W4.heap[g]? = some (.cells (B8 ([0, 0, 0, 0, 0, 0, 0, 0, 0, 0, smb (u / 100 / 100 / 100 % 100 * 2), smb (u / 100 / 100 / 100 % 100 * 2 + 1), smb (u / 100 / 100 % 100 * 2), smb (u / 100 / 100 % 100 * 2 + 1), smb (u / 100 % 100 * 2), smb (u / 100 % 100 * 2 + 1), smb (u % 100 * 2), smb (u % 100 * 2 + 1)] ++ r)).toArray t (0, 0)) by rw [← hW4]; simp [World.setCell, World.drew, Array.getElem?_modify, HG3.out, B8])
  have HK4 := hid (show Kept (fun k => k = g) w W4 by rw [← hW4]; repeat' (first | exact HK3.out | refine Kept.drew ?_ | refine kept_set ?_ _ _))
  clear hW4 z0 z10 z11 ff
  as_aux_lemma =>
  have ff : ∀ o, W4.frozen? ⟨g, o, none⟩ = false := fun o => free_of_block HG4.out
  have z0 : W4.cell? ⟨g, 0, none⟩ = some (.int .u8 (0)) := by rw [cell_of_row W4 g 0 _ _ _ HG4.out]; rfl
  have z8 : W4.cell? ⟨g, 8, none⟩ = some (.int .u8 (0)) := by rw [cell_of_row W4 g 8 _ _ _ HG4.out]; rfl
  have z9 : W4.cell? ⟨g, 9, none⟩ = some (.int .u8 (0)) := by rw [cell_of_row W4 g 9 _ _ _ HG4.out]; rfl
  go_name_slot 9 x4 hx4
  have hxe4 : x4 = ((u / 100000000 % 100 * 2 : Nat) : Int) := by omega
  have hXa4 : ∀ w, (Instr.index 9 (.string Lib.smalls) (.int .u32 (x4 + 1))).run Tryz.prog w = .ok (.int .u8 (smb (u / 100000000 % 100 * 2 + 1))) w := Lib.idx_smalls 9 Tryz.underlying9 .u32 _ _ (by omega) (by omega)
  have hXb4 : ∀ w, (Instr.index 9 (.string Lib.smalls) (.int .u32 x4)).run Tryz.prog w = .ok (.int .u8 (smb (u / 100000000 % 100 * 2))) w := Lib.idx_smalls 9 Tryz.underlying9 .u32 _ _ (by omega) (by omega)
  have hlo4 : 0 ≤ x4 := by omega
  have hhi4 : x4 ≤ 198 := by omega
  clear hx4 hxe4
  go_region_o
  go_wp2
  clear hXa4 hXb4
  go_name_world W5 hW5
  have HG5 := hid (show W5.heap[g]? = some (.cells (B8 ([0, 0, 0, 0, 0, 0, 0, 0, smb (u / 100000000 % 100 * 2), smb (u / 100000000 % 100 * 2 + 1), smb (u / 100 / 100 / 100 % 100 * 2), smb (u / 100 / 100 / 100 % 100 * 2 + 1), smb (u / 100 / 100 % 100 * 2), smb (u / 100 / 100 % 100 * 2 + 1), smb (u / 100 % 100 * 2), smb (u / 100 % 100 * 2 + 1), smb (u % 100 * 2), smb (u % 100 * 2 + 1)] ++ r)).toArray t (0, 0)) by rw [← hW5]; simp [World.setCell, World.drew, Array.getElem?_modify, HG4.out, B8])
  have HK5 := hid (show Kept (fun k => k = g) w W5 by rw [← hW5]; repeat' (first | exact HK4.out | refine Kept.drew ?_ | refine kept_set ?_ _ _))
  clear hW5 z0 z8 z9 ff
  as_aux_lemma =>
  have ff : ∀ o, W5.frozen? ⟨g, o, none⟩ = false := fun o => free_of_block HG5.out
  have z0 : W5.cell? ⟨g, 0, none⟩ = some (.int .u8 (0)) := by rw [cell_of_row W5 g 0 _ _ _ HG5.out]; rfl
  have z6 : W5.cell? ⟨g, 6, none⟩ = some (.int .u8 (0)) := by rw [cell_of_row W5 g 6 _ _ _ HG5.out]; rfl
  have z7 : W5.cell? ⟨g, 7, none⟩ = some (.int .u8 (0)) := by rw [cell_of_row W5 g 7 _ _ _ HG5.out]; rfl
  go_name_slot 8 x5 hx5
  have hxe5 : x5 = ((u / 100000000 / 100 % 100 * 2 : Nat) : Int) := by omega
  have hXa5 : ∀ w, (Instr.index 9 (.string Lib.smalls) (.int .u32 (x5 + 1))).run Tryz.prog w = .ok (.int .u8 (smb (u / 100000000 / 100 % 100 * 2 + 1))) w := Lib.idx_smalls 9 Tryz.underlying9 .u32 _ _ (by omega) (by omega)
  have hXb5 : ∀ w, (Instr.index 9 (.string Lib.smalls) (.int .u32 x5)).run Tryz.prog w = .ok (.int .u8 (smb (u / 100000000 / 100 % 100 * 2))) w := Lib.idx_smalls 9 Tryz.underlying9 .u32 _ _ (by omega) (by omega)
  have hlo5 : 0 ≤ x5 := by omega
  have hhi5 : x5 ≤ 198 := by omega
  clear hx5 hxe5
  go_region_o
  go_wp2
  clear hXa5 hXb5
  go_name_world W6 hW6
  have HG6 := hid (show W6.heap[g]? = some (.cells (B8 ([0, 0, 0, 0, 0, 0, smb (u / 100000000 / 100 % 100 * 2), smb (u / 100000000 / 100 % 100 * 2 + 1), smb (u / 100000000 % 100 * 2), smb (u / 100000000 % 100 * 2 + 1), smb (u / 100 / 100 / 100 % 100 * 2), smb (u / 100 / 100 / 100 % 100 * 2 + 1), smb (u / 100 / 100 % 100 * 2), smb (u / 100 / 100 % 100 * 2 + 1), smb (u / 100 % 100 * 2), smb (u / 100 % 100 * 2 + 1), smb (u % 100 * 2), smb (u % 100 * 2 + 1)] ++ r)).toArray t (0, 0)) by rw [← hW6]; simp [World.setCell, World.drew, Array.getElem?_modify, HG5.out, B8])
  have HK6 := hid (show Kept (fun k => k = g) w W6 by rw [← hW6]; repeat' (first | exact HK5.out | refine Kept.drew ?_ | refine kept_set ?_ _ _))
  clear hW6 z0 z6 z7 ff
  as_aux_lemma =>
  have ff : ∀ o, W6.frozen? ⟨g, o, none⟩ = false := fun o => free_of_block HG6.out
  have z0 : W6.cell? ⟨g, 0, none⟩ = some (.int .u8 (0)) := by rw [cell_of_row W6 g 0 _ _ _ HG6.out]; rfl
  have z4 : W6.cell? ⟨g, 4, none⟩ = some (.int .u8 (0)) := by rw [cell_of_row W6 g 4 _ _ _ HG6.out]; rfl
  have z5 : W6.cell? ⟨g, 5, none⟩ = some (.int .u8 (0)) := by rw [cell_of_row W6 g 5 _ _ _ HG6.out]; rfl
  go_name_slot 11 x6 hx6
  have hxe6 : x6 = ((u / 100000000 / 100 / 100 % 100 * 2 : Nat) : Int) := by omega
  have hXa6 : ∀ w, (Instr.index 9 (.string Lib.smalls) (.int .u32 (x6 + 1))).run Tryz.prog w = .ok (.int .u8 (smb (u / 100000000 / 100 / 100 % 100 * 2 + 1))) w := Lib.idx_smalls 9 Tryz.underlying9 .u32 _ _ (by omega) (by omega)
  have hXb6 : ∀ w, (Instr.index 9 (.string Lib.smalls) (.int .u32 x6)).run Tryz.prog w = .ok (.int .u8 (smb (u / 100000000 / 100 / 100 % 100 * 2))) w := Lib.idx_smalls 9 Tryz.underlying9 .u32 _ _ (by omega) (by omega)
  have hlo6 : 0 ≤ x6 := by omega
  have hhi6 : x6 ≤ 198 := by omega
  clear hx6 hxe6
  go_region_o
  go_wp2
  clear hXa6 hXb6
  go_name_world W7 hW7
  have HG7 := hid (show W7.heap[g]? = some (.cells (B8 ([0, 0, 0, 0, smb (u / 100000000 / 100 / 100 % 100 * 2), smb (u / 100000000 / 100 / 100 % 100 * 2 + 1), smb (u / 100000000 / 100 % 100 * 2), smb (u / 100000000 / 100 % 100 * 2 + 1), smb (u / 100000000 % 100 * 2), smb (u / 100000000 % 100 * 2 + 1), smb (u / 100 / 100 / 100 % 100 * 2), smb (u / 100 / 100 / 100 % 100 * 2 + 1), smb (u / 100 / 100 % 100 * 2), smb (u / 100 / 100 % 100 * 2 + 1), smb (u / 100 % 100 * 2), smb (u / 100 % 100 * 2 + 1), smb (u % 100 * 2), smb (u % 100 * 2 + 1)] ++ r)).toArray t (0, 0)) by rw [← hW7]; simp [World.setCell, World.drew, Array.getElem?_modify, HG6.out, B8])
  have HK7 := hid (show Kept (fun k => k = g) w W7 by rw [← hW7]; repeat' (first | exact HK6.out | refine Kept.drew ?_ | refine kept_set ?_ _ _))
  clear hW7 z0 z4 z5 ff
  as_aux_lemma =>
  have ff : ∀ o, W7.frozen? ⟨g, o, none⟩ = false := fun o => free_of_block HG7.out
  have z0 : W7.cell? ⟨g, 0, none⟩ = some (.int .u8 (0)) := by rw [cell_of_row W7 g 0 _ _ _ HG7.out]; rfl
  have z2 : W7.cell? ⟨g, 2, none⟩ = some (.int .u8 (0)) := by rw [cell_of_row W7 g 2 _ _ _ HG7.out]; rfl
  have z3 : W7.cell? ⟨g, 3, none⟩ = some (.int .u8 (0)) := by rw [cell_of_row W7 g 3 _ _ _ HG7.out]; rfl
  go_name_slot 10 x7 hx7
  have hxe7 : x7 = ((u / 100000000 / 100 / 100 / 100 % 100 * 2 : Nat) : Int) := by omega
  have hXa7 : ∀ w, (Instr.index 9 (.string Lib.smalls) (.int .u32 (x7 + 1))).run Tryz.prog w = .ok (.int .u8 (smb (u / 100000000 / 100 / 100 / 100 % 100 * 2 + 1))) w := Lib.idx_smalls 9 Tryz.underlying9 .u32 _ _ (by omega) (by omega)
  have hXb7 : ∀ w, (Instr.index 9 (.string Lib.smalls) (.int .u32 x7)).run Tryz.prog w = .ok (.int .u8 (smb (u / 100000000 / 100 / 100 / 100 % 100 * 2))) w := Lib.idx_smalls 9 Tryz.underlying9 .u32 _ _ (by omega) (by omega)
  have hlo7 : 0 ≤ x7 := by omega
  have hhi7 : x7 ≤ 198 := by omega
  clear hx7 hxe7
  go_region_o
  go_wp2
  clear hXa7 hXb7
  rw [rounds_succ]
  go_wp2
  go_name_world W8 hW8
  have HG8 := hid (show W8.heap[g]? = some (.cells (B8 ([0, 0, smb (u / 100000000 / 100 / 100 / 100 % 100 * 2), smb (u / 100000000 / 100 / 100 / 100 % 100 * 2 + 1), smb (u / 100000000 / 100 / 100 % 100 * 2), smb (u / 100000000 / 100 / 100 % 100 * 2 + 1), smb (u / 100000000 / 100 % 100 * 2), smb (u / 100000000 / 100 % 100 * 2 + 1), smb (u / 100000000 % 100 * 2), smb (u / 100000000 % 100 * 2 + 1), smb (u / 100 / 100 / 100 % 100 * 2), smb (u / 100 / 100 / 100 % 100 * 2 + 1), smb (u / 100 / 100 % 100 * 2), smb (u / 100 / 100 % 100 * 2 + 1), smb (u / 100 % 100 * 2), smb (u / 100 % 100 * 2 + 1), smb (u % 100 * 2), smb (u % 100 * 2 + 1)] ++ r)).toArray t (0, 0)) by rw [← hW8]; simp [World.setCell, World.drew, Array.getElem?_modify, HG7.out, B8])
  have HK8 := hid (show Kept (fun k => k = g) w W8 by rw [← hW8]; repeat' (first | exact HK7.out | refine Kept.drew ?_ | refine kept_set ?_ _ _))
  clear hW8 z0 z2 z3 ff
  as_aux_lemma =>
  have ff : ∀ o, W8.frozen? ⟨g, o, none⟩ = false := fun o => free_of_block HG8.out
  have z0 : W8.cell? ⟨g, 0, none⟩ = some (.int .u8 (0)) := by rw [cell_of_row W8 g 0 _ _ _ HG8.out]; rfl
  have z1 : W8.cell? ⟨g, 1, none⟩ = some (.int .u8 (0)) := by rw [cell_of_row W8 g 1 _ _ _ HG8.out]; rfl
  go_name_slot 16 x8 hx8
  have hxe8 : x8 = ((u / 100000000 / 100000000 % 100 * 2 : Nat) : Int) := by omega
  have hXa8 : ∀ w, (Instr.index 9 (.string Lib.smalls) (.int .u32 (x8 + 1))).run Tryz.prog w = .ok (.int .u8 (smb (u / 100000000 / 100000000 % 100 * 2 + 1))) w := Lib.idx_smalls 9 Tryz.underlying9 .u32 _ _ (by omega) (by omega)
  have hXb8 : ∀ w, (Instr.index 9 (.string Lib.smalls) (.int .u32 x8)).run Tryz.prog w = .ok (.int .u8 (smb (u / 100000000 / 100000000 % 100 * 2))) w := Lib.idx_smalls 9 Tryz.underlying9 .u32 _ _ (by omega) (by omega)
  have hlo8 : 0 ≤ x8 := by omega
  have hhi8 : x8 ≤ 198 := by omega
  clear hx8 hxe8
  go_region_o
  go_wp2
  clear hXa8 hXb8
  refine bodyPost_end (results_none Tryz.results211 _ _ _) rfl ?_
  refine ⟨rfl, ?_, ?_⟩
  · simp [World.setCell, World.drew, Array.getElem?_modify, HG8.out, B8]
  · repeat' (first | exact HK8.out | refine Kept.drew ?_ | refine kept_set ?_ _ _)
set_option maxHeartbeats 6400000 in
theorem fmt20 (u : Nat) (h1 : u < 18446744073709551616) (w : World) (g cp : Nat) (t : TypeId) (r : List Int) (hg : w.heap[g]? = some (.cells (B8 ([0, 0, 0, 0, 0, 0, 0, 0, 0, 0, 0, 0, 0, 0, 0, 0, 0, 0, 0, 0] ++ r)).toArray t (0, 0))) :
    Calls Tryz.prog 211 #[.slice (some ⟨g, 0, none⟩) 20 cp, .int .u64 u] w fun e w' => e = .returned (.tuple #[]) ∧ w'.heap[g]? = some (.cells (B8 ([smb (u / 100000000 / 100000000 / 100 % 100 * 2), smb (u / 100000000 / 100000000 / 100 % 100 * 2 + 1), smb (u / 100000000 / 100000000 % 100 * 2), smb (u / 100000000 / 100000000 % 100 * 2 + 1), smb (u / 100000000 / 100 / 100 / 100 % 100 * 2), smb (u / 100000000 / 100 / 100 / 100 % 100 * 2 + 1), smb (u / 100000000 / 100 / 100 % 100 * 2), smb (u / 100000000 / 100 / 100 % 100 * 2 + 1), smb (u / 100000000 / 100 % 100 * 2), smb (u / 100000000 / 100 % 100 * 2 + 1), smb (u / 100000000 % 100 * 2), smb (u / 100000000 % 100 * 2 + 1), smb (u / 100 / 100 / 100 % 100 * 2), smb (u / 100 / 100 / 100 % 100 * 2 + 1), smb (u / 100 / 100 % 100 * 2), smb (u / 100 / 100 % 100 * 2 + 1), smb (u / 100 % 100 * 2), smb (u / 100 % 100 * 2 + 1), smb (u % 100 * 2), smb (u % 100 * 2 + 1)] ++ r)).toArray t (0, 0)) ∧ Kept (fun k => k = g) w w' := by
  have mixed : Tryz.prog.follows Departure.mixedOrders = true := by kernel_rfl
  have HG0 := hid hg
  have HK0 := hid (Kept.refl (fun k => k = g) w)
  clear hg
  have z0 : w.cell? ⟨g, 0, none⟩ = some (.int .u8 (0)) := by rw [cell_of_row w g 0 _ _ _ HG0.out]; rfl
  have z18 : w.cell? ⟨g, 18, none⟩ = some (.int .u8 (0)) := by rw [cell_of_row w g 18 _ _ _ HG0.out]; rfl
  have z19 : w.cell? ⟨g, 19, none⟩ = some (.int .u8 (0)) := by rw [cell_of_row w g 19 _ _ _ HG0.out]; rfl
  have ff : ∀ o, w.frozen? ⟨g, o, none⟩ = false := fun o => free_of_block HG0.out
  go_enter Tryz.func211, Tryz.ntmps211
  go_name_bytes SM hSM
  have eSM : SM = Lib.smalls := by rw [← hSM]; decide +kernel
  subst eSM
  clear hSM
  go_wp2
  refine wp_loop_rounds 3 ?_
  rw [rounds_succ]
  go_wp2
  go_name_slot 9 x0 hx0
  have hxe0 : x0 = ((u % 100 * 2 : Nat) : Int) := by omega
  have hXa0 : ∀ w, (Instr.index 9 (.string Lib.smalls) (.int .u32 (x0 + 1))).run Tryz.prog w = .ok (.int .u8 (smb (u % 100 * 2 + 1))) w := Lib.idx_smalls 9 Tryz.underlying9 .u32 _ _ (by omega) (by omega)
  have hXb0 : ∀ w, (Instr.index 9 (.string Lib.smalls) (.int .u32 x0)).run Tryz.prog w = .ok (.int .u8 (smb (u % 100 * 2))) w := Lib.idx_smalls 9 Tryz.underlying9 .u32 _ _ (by omega) (by omega)
  have hlo0 : 0 ≤ x0 := by omega
  have hhi0 : x0 ≤ 198 := by omega
  clear hx0 hxe0
  go_region_o
  go_wp2
  clear hXa0 hXb0
  go_name_world W1 hW1
  have HG1 := hid (show W1.heap[g]? = some (.cells (B8 ([0, 0, 0, 0, 0, 0, 0, 0, 0, 0, 0, 0, 0, 0, 0, 0, 0, 0, smb (u % 100 * 2), smb (u % 100 * 2 + 1)] ++ r)).toArray t (0, 0)) by rw [← hW1]; simp [World.setCell, World.drew, Array.getElem?_modify, HG0.out, B8])
  have HK1 := hid (show Kept (fun k => k = g) w W1 by rw [← hW1]; repeat' (first | exact HK0.out | refine Kept.drew ?_ | refine kept_set ?_ _ _))
  clear hW1 z0 z18 z19 ff
  as_aux_lemma =>
  have ff : ∀ o, W1.frozen? ⟨g, o, none⟩ = false := fun o => free_of_block HG1.out
  have z0 : W1.cell? ⟨g, 0, none⟩ = some (.int .u8 (0)) := by rw [cell_of_row W1 g 0 _ _ _ HG1.out]; rfl
  have z16 : W1.cell? ⟨g, 16, none⟩ = some (.int .u8 (0)) := by rw [cell_of_row W1 g 16 _ _ _ HG1.out]; rfl
  have z17 : W1.cell? ⟨g, 17, none⟩ = some (.int .u8 (0)) := by rw [cell_of_row W1 g 17 _ _ _ HG1.out]; rfl
  go_name_slot 8 x1 hx1
  have hxe1 : x1 = ((u / 100 % 100 * 2 : Nat) : Int) := by omega
  have hXa1 : ∀ w, (Instr.index 9 (.string Lib.smalls) (.int .u32 (x1 + 1))).run Tryz.prog w = .ok (.int .u8 (smb (u / 100 % 100 * 2 + 1))) w := Lib.idx_smalls 9 Tryz.underlying9 .u32 _ _ (by omega) (by omega)
  have hXb1 : ∀ w, (Instr.index 9 (.string Lib.smalls) (.int .u32 x1)).run Tryz.prog w = .ok (.int .u8 (smb (u / 100 % 100 * 2))) w := Lib.idx_smalls 9 Tryz.underlying9 .u32 _ _ (by omega) (by omega)
  have hlo1 : 0 ≤ x1 := by omega
  have hhi1 : x1 ≤ 198 := by omega
  clear hx1 hxe1
  go_region_o
  go_wp2
  clear hXa1 hXb1
  go_name_world W2 hW2
  have HG2 := hid (show W2.heap[g]? = some (.cells (B8 ([0, 0, 0, 0, 0, 0, 0, 0, 0, 0, 0, 0, 0, 0, 0, 0, smb (u / 100 % 100 * 2), smb (u / 100 % 100 * 2 + 1), smb (u % 100 * 2), smb (u % 100 * 2 + 1)] ++ r)).toArray t (0, 0)) by rw [← hW2]; simp [World.setCell, World.drew, Array.getElem?_modify, HG1.out, B8])
  have HK2 := hid (show Kept (fun k => k = g) w W2 by rw [← hW2]; repeat' (first | exact HK1.out | refine Kept.drew ?_ | refine kept_set ?_ _ _))
  clear hW2 z0 z16 z17 ff
  as_aux_lemma =>
  have ff : ∀ o, W2.frozen? ⟨g, o, none⟩ = false := fun o => free_of_block HG2.out
  have z0 : W2.cell? ⟨g, 0, none⟩ = some (.int .u8 (0)) := by rw [cell_of_row W2 g 0 _ _ _ HG2.out]; rfl
  have z14 : W2.cell? ⟨g, 14, none⟩ = some (.int .u8 (0)) := by rw [cell_of_row W2 g 14 _ _ _ HG2.out]; rfl
  have z15 : W2.cell? ⟨g, 15, none⟩ = some (.int .u8 (0)) := by rw [cell_of_row W2 g 15 _ _ _ HG2.out]; rfl
  go_name_slot 11 x2 hx2
  have hxe2 : x2 = ((u / 100 / 100 % 100 * 2 : Nat) : Int) := by omega
  have hXa2 : ∀ w, (Instr.index 9 (.string Lib.smalls) (.int .u32 (x2 + 1))).run Tryz.prog w = .ok (.int .u8 (smb (u / 100 / 100 % 100 * 2 + 1))) w := Lib.idx_smalls 9 Tryz.underlying9 .u32 _ _ (by omega) (by omega)
  have hXb2 : ∀ w, (Instr.index 9 (.string Lib.smalls) (.int .u32 x2)).run Tryz.prog w = .ok (.int .u8 (smb (u / 100 / 100 % 100 * 2))) w := Lib.idx_smalls 9 Tryz.underlying9 .u32 _ _ (by omega) (by omega)
  have hlo2 : 0 ≤ x2 := by omega
  have hhi2 : x2 ≤ 198 := by omega
  clear hx2 hxe2
  go_region_o
  go_wp2
  clear hXa2 hXb2
  go_name_world W3 hW3
  have HG3 := hid (show W3.heap[g]? = some (.cells (B8 ([0, 0, 0, 0, 0, 0, 0, 0, 0, 0, 0, 0, 0, 0, smb (u / 100 / 100 % 100 * 2), smb (u / 100 / 100 % 100 * 2 + 1), smb (u / 100 % 100 * 2), smb (u / 100 % 100 * 2 + 1), smb (u % 100 * 2), smb (u % 100 * 2 + 1)] ++ r)).toArray t (0, 0)) by rw [← hW3]; simp [World.setCell, World.drew, Array.getElem?_modify, HG2.out, B8])
  have HK3 := hid (show Kept (fun k => k = g) w W3 by rw [← hW3]; repeat' (first | exact HK2.out | refine Kept.drew ?_ | refine kept_set ?_ _ _))
  clear hW3 z0 z14 z15 ff
  as_aux_lemma =>
  have ff : ∀ o, W3.frozen? ⟨g, o, none⟩ = false := fun o => free_of_block HG3.out
  have z0 : W3.cell? ⟨g, 0, none⟩ = some (.int .u8 (0)) := by rw [cell_of_row W3 g 0 _ _ _ HG3.out]; rfl
  have z12 : W3.cell? ⟨g, 12, none⟩ = some (.int .u8 (0)) := by rw [cell_of_row W3 g 12 _ _ _ HG3.out]; rfl
  have z13 : W3.cell? ⟨g, 13, none⟩ = some (.int .u8 (0)) := by rw [cell_of_row W3 g 13 _ _ _ HG3.out]; rfl
  go_name_slot 10 x3 hx3
  have hxe3 : x3 = ((u / 100 / 100 / 100 % 100 * 2 : Nat) : Int) := by omega
  have hXa3 : ∀ w, (Instr.index 9 (.string Lib.smalls) (.int .u32 (x3 + 1))).run Tryz.prog w = .ok (.int .u8 (smb (u / 100 / 100 / 100 % 100 * 2 + 1))) w := Lib.idx_smalls 9 Tryz.underlying9 .u32 _ _ (by omega) (by omega)
  have hXb3 : ∀ w, (Instr.index 9 (.string Lib.smalls) (.int .u32 x3)).run Tryz.prog w = .ok (.int .u8 (smb (u / 100 / 100 / 100 % 100 * 2))) w := Lib.idx_smalls 9 Tryz.underlying9 .u32 _ _ (by omega) (by omega)
  have hlo3 : 0 ≤ x3 := by omega
  have hhi3 : x3 ≤ 198 := by omega
  clear hx3 hxe3
  go_region_o
  go_wp2
  clear hXa3 hXb3
  rw [rounds_succ]
  go_wp2
  go_name_world W4 hW4
  have HG4 := hid (show W4.heap[g]? = some (.cells (B8 ([0, 0, 0, 0, 0, 0, 0, 0, 0, 0, 0, 0, smb (u / 100 / 100 / 100 % 100 * 2), smb (u / 100 / 100 / 100 % 100 * 2 + 1), smb (u / 100 / 100 % 100 * 2), smb (u / 100 / 100 % 100 * 2 + 1), smb (u / 100 % 100 * 2), smb (u / 100 % 100 * 2 + 1), smb (u % 100 * 2), smb (u % 100 * 2 + 1)] ++ r)).toArray t (0, 0)) by rw [← hW4]; simp [World.setCell, World.drew, Array.getElem?_modify, HG3.out, B8])
  have HK4 := hid (show Kept (fun k => k = g) w W4 by rw [← hW4]; repeat' (first | exact HK3.out | refine Kept.drew ?_ | refine kept_set ?_ _ _))
  clear hW4 z0 z12 z13 ff
  as_aux_lemma =>
  have ff : ∀ o, W4.frozen? ⟨g, o, none⟩ = false := fun o => free_of_block HG4.out
  have z0 : W4.cell? ⟨g, 0, none⟩ = some (.int .u8 (0)) := by rw [cell_of_row W4 g 0 _ _ _ HG4.out]; rfl
  have z10 : W4.cell? ⟨g, 10, none⟩ = some (.int .u8 (0)) := by rw [cell_of_row W4 g 10 _ _ _ HG4.out]; rfl
  have z11 : W4.cell? ⟨g, 11, none⟩ = some (.int .u8 (0)) := by rw [cell_of_row W4 g 11 _ _ _ HG4.out]; rfl
  go_name_slot 9 x4 hx4
  have hxe4 : x4 = ((u / 100000000 % 100 * 2 : Nat) : Int) := by omega
  have hXa4 : ∀ w, (Instr.index 9 (.string Lib.smalls) (.int .u32 (x4 + 1))).run Tryz.prog w = .ok (.int .u8 (smb (u / 100000000 % 100 * 2 + 1))) w := Lib.idx_smalls 9 Tryz.underlying9 .u32 _ _ (by omega) (by omega)
  have hXb4 : ∀ w, (Instr.index 9 (.string Lib.smalls) (.int .u32 x4)).run Tryz.prog w = .ok (.int .u8 (smb (u / 100000000 % 100 * 2))) w := Lib.idx_smalls 9 Tryz.underlying9 .u32 _ _ (by omega) (by omega)
  have hlo4 : 0 ≤ x4 := by omega
  have hhi4 : x4 ≤ 198 := by omega
  clear hx4 hxe4
  go_region_o
  go_wp2
  clear hXa4 hXb4
  go_name_world W5 hW5
  have HG5 := hid (show W5.heap[g]? = some (.cells (B8 ([0, 0, 0, 0, 0, 0, 0, 0, 0, 0, smb (u / 100000000 % 100 * 2), smb (u / 100000000 % 100 * 2 + 1), smb (u / 100 / 100 / 100 % 100 * 2), smb (u / 100 / 100 / 100 % 100 * 2 + 1), smb (u / 100 / 100 % 100 * 2), smb (u / 100 / 100 % 100 * 2 + 1), smb (u / 100 % 100 * 2), smb (u / 100 % 100 * 2 + 1), smb (u % 100 * 2), smb (u % 100 * 2 + 1)] ++ r)).toArray t (0, 0)) by rw [← hW5]; simp [World.setCell, World.drew, Array.getElem?_modify, HG4.out, B8])
  have HK5 := hid (show Kept (fun k => k = g) w W5 by rw [← hW5]; repeat' (first | exact HK4.out | refine Kept.drew ?_ | refine kept_set ?_ _ _))
  clear hW5 z0 z10 z11 ff
  as_aux_lemma =>
  have ff : ∀ o, W5.frozen? ⟨g, o, none⟩ = false := fun o => free_of_block HG5.out
  have z0 : W5.cell? ⟨g, 0, none⟩ = some (.int .u8 (0)) := by rw [cell_of_row W5 g 0 _ _ _ HG5.out]; rfl
  have z8 : W5.cell? ⟨g, 8, none⟩ = some (.int .u8 (0)) := by rw [cell_of_row W5 g 8 _ _ _ HG5.out]; rfl
  have z9 : W5.cell? ⟨g, 9, none⟩ = some (.int .u8 (0)) := by rw [cell_of_row W5 g 9 _ _ _ HG5.out]; rfl
  go_name_slot 8 x5 hx5
  have hxe5 : x5 = ((u / 100000000 / 100 % 100 * 2 : Nat) : Int) := by omega
  have hXa5 : ∀ w, (Instr.index 9 (.string Lib.smalls) (.int .u32 (x5 + 1))).run Tryz.prog w = .ok (.int .u8 (smb (u / 100000000 / 100 % 100 * 2 + 1))) w := Lib.idx_smalls 9 Tryz.underlying9 .u32 _ _ (by omega) (by omega)
  have hXb5 : ∀ w, (Instr.index 9 (.string Lib.smalls) (.int .u32 x5)).run Tryz.prog w = .ok (.int .u8 (smb (u / 100000000 / 100 % 100 * 2))) w := Lib.idx_smalls 9 Tryz.underlying9 .u32 _ _ (by omega) (by omega)
  have hlo5 : 0 ≤ x5 := by omega
  have hhi5 : x5 ≤ 198 := by omega
  clear hx5 hxe5
  go_region_o
  go_wp2
  clear hXa5 hXb5
  go_name_world W6 hW6
  have HG6 := hid (show W6.heap[g]? = some (.cells (B8 ([0, 0, 0, 0, 0, 0, 0, 0, smb (u / 100000000 / 100 % 100 * 2), smb (u / 100000000 / 100 % 100 * 2 + 1), smb (u / 100000000 % 100 * 2), smb (u / 100000000 % 100 * 2 + 1), smb (u / 100 / 100 / 100 % 100 * 2), smb (u / 100 / 100 / 100 % 100 * 2 + 1), smb (u / 100 / 100 % 100 * 2), smb (u / 100 / 100 % 100 * 2 + 1), smb (u / 100 % 100 * 2), smb (u / 100 % 100 * 2 + 1), smb (u % 100 * 2), smb (u % 100 * 2 + 1)] ++ r)).toArray t (0, 0)) by rw [← hW6]; simp [World.setCell, World.drew, Array.getElem?_modify, HG5.out, B8])
  have HK6 := hid (show Kept (fun k => k = g) w W6 by rw [← hW6]; repeat' (first | exact HK5.out | refine Kept.drew ?_ | refine kept_set ?_ _ _))
  clear hW6 z0 z8 z9 ff
  as_aux_lemma =>
  have ff : ∀ o, W6.frozen? ⟨g, o, none⟩ = false := fun o => free_of_block HG6.out
  have z0 : W6.cell? ⟨g, 0, none⟩ = some (.int .u8 (0)) := by rw [cell_of_row W6 g 0 _ _ _ HG6.out]; rfl
  have z6 : W6.cell? ⟨g, 6, none⟩ = some (.int .u8 (0)) := by rw [cell_of_row W6 g 6 _ _ _ HG6.out]; rfl
  have z7 : W6.cell? ⟨g, 7, none⟩ = some (.int .u8 (0)) := by rw [cell_of_row W6 g 7 _ _ _ HG6.out]; rfl
  go_name_slot 11 x6 hx6
  have hxe6 : x6 = ((u / 100000000 / 100 / 100 % 100 * 2 : Nat) : Int) := by omega
  have hXa6 : ∀ w, (Instr.index 9 (.string Lib.smalls) (.int .u32 (x6 + 1))).run Tryz.prog w = .ok (.int .u8 (smb (u / 100000000 / 100 / 100 % 100 * 2 + 1))) w := Lib.idx_smalls 9 Tryz.underlying9 .u32 _ _ (by omega) (by omega)
  have hXb6 : ∀ w, (Instr.index 9 (.string Lib.smalls) (.int .u32 x6)).run Tryz.prog w = .ok (.int .u8 (smb (u / 100000000 / 100 / 100 % 100 * 2))) w := Lib.idx_smalls 9 Tryz.underlying9 .u32 _ _ (by omega) (by omega)
  have hlo6 : 0 ≤ x6 := by omega
  have hhi6 : x6 ≤ 198 := by omega
  clear hx6 hxe6
  go_region_o
  go_wp2
  clear hXa6 hXb6
  go_name_world W7 hW7
  have HG7 := hid (show W7.heap[g]? = some (.cells (B8 ([0, 0, 0, 0, 0, 0, smb (u / 100000000 / 100 / 100 % 100 * 2), smb (u / 100000000 / 100 / 100 % 100 * 2 + 1), smb (u / 100000000 / 100 % 100 * 2), smb (u / 100000000 / 100 % 100 * 2 + 1), smb (u / 100000000 % 100 * 2), smb (u / 100000000 % 100 * 2 + 1), smb (u / 100 / 100 / 100 % 100 * 2), smb (u / 100 / 100 / 100 % 100 * 2 + 1), smb (u / 100 / 100 % 100 * 2), smb (u / 100 / 100 % 100 * 2 + 1), smb (u / 100 % 100 * 2), smb (u / 100 % 100 * 2 + 1), smb (u % 100 * 2), smb (u % 100 * 2 + 1)] ++ r)).toArray t (0, 0)) by rw [← hW7]; simp [World.setCell, World.drew, Array.getElem?_modify, HG6.out, B8])
  have HK7 := hid (show Kept (fun k => k = g) w W7 by rw [← hW7]; repeat' (first | exact HK6.out | refine Kept.drew ?_ | refine kept_set ?_ _ _))
  clear hW7 z0 z6 z7 ff
  as_aux_lemma =>
  have ff : ∀ o, W7.frozen? ⟨g, o, none⟩ = false := fun o => free_of_block HG7.out
  have z0 : W7.cell? ⟨g, 0, none⟩ = some (.int .u8 (0)) := by rw [cell_of_row W7 g 0 _ _ _ HG7.out]; rfl
  have z4 : W7.cell? ⟨g, 4, none⟩ = some (.int .u8 (0)) := by rw [cell_of_row W7 g 4 _ _ _ HG7.out]; rfl
  have z5 : W7.cell? ⟨g, 5, none⟩ = some (.int .u8 (0)) := by rw [cell_of_row W7 g 5 _ _ _ HG7.out]; rfl
  go_name_slot 10 x7 hx7
  have hxe7 : x7 = ((u / 100000000 / 100 / 100 / 100 % 100 * 2 : Nat) : Int) := by omega
  have hXa7 : ∀ w, (Instr.index 9 (.string Lib.smalls) (.int .u32 (x7 + 1))).run Tryz.prog w = .ok (.int .u8 (smb (u / 100000000 / 100 / 100 / 100 % 100 * 2 + 1))) w := Lib.idx_smalls 9 Tryz.underlying9 .u32 _ _ (by omega) (by omega)
  have hXb7 : ∀ w, (Instr.index 9 (.string Lib.smalls) (.int .u32 x7)).run Tryz.prog w = .ok (.int .u8 (smb (u / 100000000 / 100 / 100 / 100 % 100 * 2))) w := Lib.idx_smalls 9 Tryz.underlying9 .u32 _ _ (by omega) (by omega)
  have hlo7 : 0 ≤ x7 := by omega
  have hhi7 : x7 ≤ 198 := by omega
  clear hx7 hxe7
  go_region_o
  go_wp2
  clear hXa7 hXb7
  rw [rounds_succ]
  go_wp2
  go_name_world W8 hW8
  have HG8 := hid (show W8.heap[g]? = some (.cells (B8 ([0, 0, 0, 0, smb (u / 100000000 / 100 / 100 / 100 % 100 * 2), smb (u / 100000000 / 100 / 100 / 100 % 100 * 2 + 1), smb (u / 100000000 / 100 / 100 % 100 * 2), smb (u / 100000000 / 100 / 100 % 100 * 2 + 1), smb (u / 100000000 / 100 % 100 * 2), smb (u / 100000000 / 100 % 100 * 2 + 1), smb (u / 100000000 % 100 * 2), smb (u / 100000000 % 100 * 2 + 1), smb (u / 100 / 100 / 100 % 100 * 2), smb (u / 100 / 100 / 100 % 100 * 2 + 1), smb (u / 100 / 100 % 100 * 2), smb (u / 100 / 100 % 100 * 2 + 1), smb (u / 100 % 100 * 2), smb (u / 100 % 100 * 2 + 1), smb (u % 100 * 2), smb (u % 100 * 2 + 1)] ++ r)).toArray t (0, 0)) by rw [← hW8]; simp [World.setCell, World.drew, Array.getElem?_modify, HG7.out, B8])
  have HK8 := hid (show Kept (fun k => k = g) w W8 by rw [← hW8]; repeat' (first | exact HK7.out | refine Kept.drew ?_ | refine kept_set ?_ _ _))
  clear hW8 z0 z4 z5 ff
  as_aux_lemma =>
  have ff : ∀ o, W8.frozen? ⟨g, o, none⟩ = false := fun o => free_of_block HG8.out
  have z0 : W8.cell? ⟨g, 0, none⟩ = some (.int .u8 (0)) := by rw [cell_of_row W8 g 0 _ _ _ HG8.out]; rfl
  have z2 : W8.cell? ⟨g, 2, none⟩ = some (.int .u8 (0)) := by rw [cell_of_row W8 g 2 _ _ _ HG8.out]; rfl
  have z3 : W8.cell? ⟨g, 3, none⟩ = some (.int .u8 (0)) := by rw [cell_of_row W8 g 3 _ _ _ HG8.out]; rfl
  go_name_slot 15 x8 hx8
  have hxe8 : x8 = ((u / 100000000 / 100000000 % 100 * 2 : Nat) : Int) := by omega
  have hXa8 : ∀ w, (Instr.index 9 (.string Lib.smalls) (.int .u32 (x8 + 1))).run Tryz.prog w = .ok (.int .u8 (smb (u / 100000000 / 100000000 % 100 * 2 + 1))) w := Lib.idx_smalls 9 Tryz.underlying9 .u32 _ _ (by omega) (by omega)
  have hXb8 : ∀ w, (Instr.index 9 (.string Lib.smalls) (.int .u32 x8)).run Tryz.prog w = .ok (.int .u8 (smb (u / 100000000 / 100000000 % 100 * 2))) w := Lib.idx_smalls 9 Tryz.underlying9 .u32 _ _ (by omega) (by omega)
  have hlo8 : 0 ≤ x8 := by omega
  have hhi8 : x8 ≤ 198 := by omega
  clear hx8 hxe8
  go_region_o
  go_wp2
  clear hXa8 hXb8
  go_name_world W9 hW9
  have HG9 := hid (show W9.heap[g]? = some (.cells (B8 ([0, 0, smb (u / 100000000 / 100000000 % 100 * 2), smb (u / 100000000 / 100000000 % 100 * 2 + 1), smb (u / 100000000 / 100 / 100 / 100 % 100 * 2), smb (u / 100000000 / 100 / 100 / 100 % 100 * 2 + 1), smb (u / 100000000 / 100 / 100 % 100 * 2), smb (u / 100000000 / 100 / 100 % 100 * 2 + 1), smb (u / 100000000 / 100 % 100 * 2), smb (u / 100000000 / 100 % 100 * 2 + 1), smb (u / 100000000 % 100 * 2), smb (u / 100000000 % 100 * 2 + 1), smb (u / 100 / 100 / 100 % 100 * 2), smb (u / 100 / 100 / 100 % 100 * 2 + 1), smb (u / 100 / 100 % 100 * 2), smb (u / 100 / 100 % 100 * 2 + 1), smb (u / 100 % 100 * 2), smb (u / 100 % 100 * 2 + 1), smb (u % 100 * 2), smb (u % 100 * 2 + 1)] ++ r)).toArray t (0, 0)) by rw [← hW9]; simp [World.setCell, World.drew, Array.getElem?_modify, HG8.out, B8])
  have HK9 := hid (show Kept (fun k => k = g) w W9 by rw [← hW9]; repeat' (first | exact HK8.out | refine Kept.drew ?_ | refine kept_set ?_ _ _))
  clear hW9 z0 z2 z3 ff
  as_aux_lemma =>
  have ff : ∀ o, W9.frozen? ⟨g, o, none⟩ = false := fun o => free_of_block HG9.out
  have z0 : W9.cell? ⟨g, 0, none⟩ = some (.int .u8 (0)) := by rw [cell_of_row W9 g 0 _ _ _ HG9.out]; rfl
  have z1 : W9.cell? ⟨g, 1, none⟩ = some (.int .u8 (0)) := by rw [cell_of_row W9 g 1 _ _ _ HG9.out]; rfl
  go_name_slot 14 x9 hx9
  have hxe9 : x9 = ((u / 100000000 / 100000000 / 100 % 100 * 2 : Nat) : Int) := by omega
  have hXa9 : ∀ w, (Instr.index 9 (.string Lib.smalls) (.int .u32 (x9 + 1))).run Tryz.prog w = .ok (.int .u8 (smb (u / 100000000 / 100000000 / 100 % 100 * 2 + 1))) w := Lib.idx_smalls 9 Tryz.underlying9 .u32 _ _ (by omega) (by omega)
  have hXb9 : ∀ w, (Instr.index 9 (.string Lib.smalls) (.int .u32 x9)).run Tryz.prog w = .ok (.int .u8 (smb (u / 100000000 / 100000000 / 100 % 100 * 2))) w := Lib.idx_smalls 9 Tryz.underlying9 .u32 _ _ (by omega) (by omega)
  have hlo9 : 0 ≤ x9 := by omega
  have hhi9 : x9 ≤ 198 := by omega
  clear hx9 hxe9
  go_region_o
  go_wp2
  clear hXa9 hXb9
  refine bodyPost_end (results_none Tryz.results211 _ _ _) rfl ?_
  refine ⟨rfl, ?_, ?_⟩
  · simp [World.setCell, World.drew, Array.getElem?_modify, HG9.out, B8]
  · repeat' (first | exact HK9.out | refine Kept.drew ?_ | refine kept_set ?_ _ _)
end Go.Proofs.YthcoigbkdbkojabGreat
