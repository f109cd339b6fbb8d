import Derived.Test.YtamajeagmkjjbaaWrow
import Derived.Test.YtamajeagmkjjbaaW1
namespace Go.Proofs.Ytamajeagmkjjbaa
open Go.RowKit

def fixedB (n : Nat) (v : Int) : List Int := (List.range n).map fun i => v / 256 ^ i % 256
theorem fixedB_succ (k : Nat) (v : Int) : fixedB (k + 1) v = fixedB k v ++ [v / 256 ^ k % 256] := by
  simp [fixedB, List.range_succ]
theorem fixedB_len (k : Nat) (v : Int) : (fixedB k v).length = k := by simp [fixedB]

theorem shr8 (v : Int) (k : Nat) (hk : k < 8) : Op.shift .shr .u64 v .i64 (8 * (k : Int)) = pure (.int .u64 (v / 256 ^ k)) := by
  rw [shift_shr_any _ _ _ _ (by omega)]
  have e : min (8 * (k : Int)).toNat IntKind.u64.bits = 8 * k := by simp only [IntKind.bits]; omega
  rw [e, Int.pow_mul]
  rfl

theorem div_bd (v : Int) (k : Nat) (h0 : 0 ≤ v) (h1 : v < 18446744073709551616) : 0 ≤ v / 256 ^ k ∧ v / 256 ^ k < 18446744073709551616 := by
  have hp : (0 : Int) < 256 ^ k := Int.pow_pos (by omega)
  refine ⟨Int.ediv_nonneg h0 (by omega), ?_⟩
  have := Int.ediv_le_self (256 ^ k) h0
  omega

theorem grownBy_undrew {x y : World} {r : Option Nat} (h : x.drew.grownBy y r) : x.grownBy y r := ⟨h.os, h.tape, h.output, h.size, h.block⟩

set_option maxRecDepth 100000 in
set_option maxHeartbeats 1600000 in
theorem wfixed_ok (B p : Nat) (g : Option Nat) (bs : List Int) (w : World) (v : Int) (n : Nat) (h : Wr B w p g bs 0) (hB : B ≤ w.heap.size) (_hu0 : 0 ≤ v) (_hu1 : v < 18446744073709551616) (hn : n ≤ 8) (hl : bs.length ≤ 1000000000) :
    Calls Try.prog 30 #[.pointer (some ⟨p, 0, none⟩), .int .u64 v, .int .i64 n] w fun x w' => x = .returned (.tuple #[]) ∧ WrStep B p g w w' (bs ++ fixedB n v) 0 := by
  obtain ⟨i0, hi, hz0, hz1, hz2⟩ := info_parts Try.info5
  go_enter Try.func30, Try.ntmps30
  go_wp2_with (go_at_call 50; refine (open_any B p g bs 0 _ h).mono ?_; rintro e w' ⟨rfl, hww⟩; subst hww)
  go_loopw [6, 20] (fun _ i wr => ∃ (k : Nat) (g' : Option Nat), k ≤ n ∧ i = .int .i64 k ∧ Wr B wr p g' (bs ++ fixedB k v) 0 ∧
      (g' = g ∨ ∃ k, w'.heap.size ≤ k ∧ g' = some k) ∧ Kept (fun k => k = p ∨ g = some k) w' wr)
    (fun _ i _ => n - (intOf i).toNat)
  case atStart => exact ⟨0, g, Nat.zero_le _, rfl, by simpa [fixedB] using h, .inl rfl, Kept.refl _ _⟩
  case round =>
    obtain ⟨k, g', hk, rfl, hw, hg, hkp⟩ := hrel
    by_cases hc : k < n
    · have hwo := hw
      obtain ⟨v0, hv1, hv2, hv3⟩ := hwo
      obtain ⟨c0, c1⟩ := cell_of_pair hv1
      have hp := hw.lt
      have f0 := free_of_block (o := 0) hv1
      have hsz := hkp.size
      have hlen : (bs ++ fixedB k v).length = bs.length + k := by simp [fixedB]
      have hw8 : IntKind.i64.wrap (8 * (k : Int)) = 8 * (k : Int) := by rw [IntKind.wrap_i64]; omega
      obtain ⟨z, hz⟩ : ∃ z, z = v / 256 ^ k % 256 := ⟨_, rfl⟩
      have hwz : IntKind.u8.wrap (v / 2 ^ (8 * (k : Int)).toNat) = z := by
        rw [IntKind.wrap_u8, hz, show (8 * (k : Int)).toNat = 8 * k from by omega, Int.pow_mul]; rfl
      have Hz : Hid (z = v / 256 ^ k % 256) := hz
      have hnew := World.new_ne wr ⟨p, 0, none⟩ c0
      obtain ⟨xs, hxs⟩ : ∃ xs, xs = bs ++ fixedB k v := ⟨_, rfl⟩
      rw [← hxs] at hlen hw hv3
      have Hx : Hid _ := hxs
      subst hv2
      have hne : v0.ownBlock ≠ some p := hw.ne
      have Hw : Hid _ := hw
      have Hg : Hid _ := hg
      have Hl : Hid _ := hlen
      have Hv1 : Hid _ := hv1
      clear h hw hg hlen hz hxs hv1
      go_wp2_with fail
      go_region_law
        ((refine step_append_lies _ (by rfl) _ _ _ (by rfl) B 5 i0 _ 1 1 Try.underlying26 hi hz0 hz1 hz2 rfl (by omega) v0 xs.length (B8 xs) (by rfl) ((hv3.alloc _).drew)
            ⟨wr.heap.size, 0, none⟩ 1 1 [.int .u8 z] (by rfl) (by rfl) (World.news_of_block (cs := #[.int .u8 z]) (t := 5) (fr := (0, 0)) (heap_alloc_new wr _)) (by simp [Value.oneCell'])
            (by omega) (by rw [Hl.out]; unfold maxLen; omega) (by rw [Hl.out]; omega) (by simp; omega) (wr.heap.size + 1) (by simp) ?_; intro gg cap w1 hown1 hgrow hat hlt; have f1 := (hgrow.frozen_far ⟨p, 0, none⟩ (by simp; omega) (Ne.symm hne)).trans ((frozen?_alloc_cells _ _ _ _).trans f0); have c2 := (hgrow.cell_far ⟨p, 0, none⟩ (by simp; omega) (Ne.symm hne)).trans ((World.cell?_alloc_past _ _ _ (by simpa using hp)).trans c0)))
      all_goals
        have P := push_step (ns := [z]) Hv1.out Hw.out _ (grownBy_undrew hgrow) hown1 hat
        clear hgrow hown1 hat
        go_wp2
        go_roundw
        case rel =>
          obtain ⟨gx, q1, q2, q3⟩ := wr_trans Hg.out hkp P.1 P.2.1 P.2.2
          refine ⟨k + 1, gx, by omega, by go_num, ?_, q2, q3⟩
          rw [fixedB_succ, ← List.append_assoc, ← Hx.out, ← Hz.out]
          exact q1
        case measure => simp [intOf]; omega
    · obtain rfl : k = n := by omega
      clear h
      go_wp2
      go_end0
      exact ⟨rfl, g', hw, hg, hkp⟩

end Go.Proofs.Ytamajeagmkjjbaa
