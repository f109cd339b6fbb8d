import Derived.Test.YtamajeagmkjjbaaBase
import Derived.Test.YtamajeagmkjjbaaPure
namespace Go.Proofs.Ytamajeagmkjjbaa
open Go.RowKit

theorem ret_int {k : IntKind} {a b : Int} (h : a = b) : Ending.returned (.int k a) = .returned (.int k b) := by rw [h]

set_option maxHeartbeats 400000 in
theorem open_any (B p : Nat) (g : Option Nat) (bs : List Int) (e : Int) (w : World) (h : Wr B w p g bs e) :
    Calls Try.prog 50 #[.pointer (some ⟨p, 0, none⟩)] w fun x w' => x = .returned (.bool (e == 0)) ∧ w' = w := by
  obtain ⟨v, h1, _, _⟩ := h
  obtain ⟨c0, c1⟩ := cell_of_pair h1
  clear h1
  go_enter Try.func50, Try.ntmps50
  go_wp2
  go_ret
  exact ⟨rfl, rfl⟩

set_option maxHeartbeats 400000 in
theorem open_nil (w : World) :
    Calls Try.prog 50 #[.pointer none] w fun x w' => x = .returned (.bool false) ∧ w' = w := by
  go_enter Try.func50, Try.ntmps50
  go_wp2
  go_ret
  exact ⟨rfl, rfl⟩

set_option maxHeartbeats 400000 in
theorem werr_any (B p : Nat) (g : Option Nat) (bs : List Int) (e : Int) (w : World) (h : Wr B w p g bs e) :
    Calls Try.prog 15 #[.pointer (some ⟨p, 0, none⟩)] w fun x w' => x = .returned (.int .i64 e) ∧ w' = w := by
  obtain ⟨v, h1, _, _⟩ := h
  obtain ⟨c0, c1⟩ := cell_of_pair h1
  clear h1
  go_enter Try.func15, Try.ntmps15
  go_wp2
  go_ret
  exact ⟨rfl, rfl⟩

set_option maxHeartbeats 400000 in
theorem werr_nil (w : World) :
    Calls Try.prog 15 #[.pointer none] w fun x w' => x = .returned (.int .i64 1) ∧ w' = w := by
  go_enter Try.func15, Try.ntmps15
  go_wp2
  go_ret
  exact ⟨rfl, rfl⟩

set_option maxHeartbeats 400000 in
theorem wdata_nil (w : World) :
    Calls Try.prog 14 #[.pointer none] w fun x w' => x = .returned (.slice none 0 0) ∧ w' = w := by
  go_enter Try.func14, Try.ntmps14
  go_wp2
  go_ret
  exact ⟨rfl, rfl⟩

/-- 'fold'. -/
def foldZ (v : Int) : Int := if v < 0 then -2 * v - 1 else 2 * v

set_option maxHeartbeats 400000 in
theorem fold_any (v : Int) (w : World) (h0 : -9223372036854775808 ≤ v) (h1 : v < 9223372036854775808) :
    Calls Try.prog 52 #[.int .i64 v] w fun x w' => x = .returned (.int .u64 (foldZ v)) ∧ w' = w := by
  by_cases hv : v < 0
  · have e1 : IntKind.u64.wrap (IntKind.u64.wrap v * 2) = 2 * v + 18446744073709551616 := by
      rw [IntKind.wrap_u64, IntKind.wrap_u64]; omega
    have e2 := xorMax_u64 (2 * v + 18446744073709551616) (by omega) (by omega)
    have H1 : Hid _ := e1
    have H2 : Hid _ := e2
    clear e1 e2
    go_enter Try.func52, Try.ntmps52
    go_wp2
    all_goals go_ret
    all_goals first
      | (refine ⟨ret_int ?_, rfl⟩; rw [H1.out, H2.out]; unfold foldZ; rw [if_pos hv]; omega)
      | (exfalso; revert ‹IntKind.u64.signed = true›; decide)
  · go_enter Try.func52, Try.ntmps52
    go_wp2
    go_ret
    refine ⟨ret_int ?_, rfl⟩
    unfold foldZ; rw [if_neg (by omega)]; omega

/-- 'unfold'. -/
def unfoldZ (u : Int) : Int := if u % 2 = 0 then u / 2 else -1 - u / 2

set_option maxHeartbeats 400000 in
theorem unfold_any (u : Int) (w : World) (h0 : 0 ≤ u) (h1 : u < 18446744073709551616) :
    Calls Try.prog 54 #[.int .u64 u] w fun x w' => x = .returned (.int .i64 (unfoldZ u)) ∧ w' = w := by
  have a1 := and1_u64 u h0 h1
  by_cases hv : u % 2 = 0
  · go_enter Try.func54, Try.ntmps54
    go_wp2
    go_ret
    refine ⟨ret_int ?_, rfl⟩
    unfold unfoldZ; rw [if_pos hv]
  · have hv' : u % 2 = 1 := by omega
    have H1 : Hid _ := xorMax_i64 (u / 2) (by omega) (by omega)
    have hz : unfoldZ u = -1 - u / 2 := by unfold unfoldZ; rw [if_neg hv]
    have Hz : Hid _ := hz
    clear hv hz
    go_enter Try.func54, Try.ntmps54
    go_wp2
    all_goals go_ret
    all_goals first
      | (refine ⟨ret_int ?_, rfl⟩; rw [H1.out, Hz.out]; done)
      | (exfalso; revert ‹¬ IntKind.i64.signed = true›; decide)

end Go.Proofs.Ytamajeagmkjjbaa
