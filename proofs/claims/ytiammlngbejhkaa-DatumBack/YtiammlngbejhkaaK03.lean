import Derived.Test.YtiammlngbejhkaaK01
import Derived.Test.YtiammlngbejhkaaK02
import Derived.Deep.AppendSrc
namespace Go.Proofs.Ytiammlngbejhkaa
open Go.RowKit

/-- The row of sevens of u, in at most f + 1 bytes. -/
def rowF : Nat → Int → List Int
  | 0, u => [u]
  | f + 1, u => if 127 < u then (u % 128 + 128) :: rowF f (u / 128) else [u]

theorem rowF_more (f : Nat) (u : Int) (h : 127 < u) : rowF (f + 1) u = [u % 128 + 128] ++ rowF f (u / 128) := by
  rw [rowF, if_pos h]; rfl
theorem rowF_last (f : Nat) (u : Int) (h : ¬ 127 < u) : rowF f u = [u] := by
  cases f with
  | zero => rfl
  | succ f => rw [rowF, if_neg h]

theorem pow_step (f : Nat) (u : Int) (h : u < 128 ^ (f + 1 + 1)) : u / 128 < 128 ^ (f + 1) := by
  apply Int.ediv_lt_of_lt_mul (by omega)
  rw [Int.pow_succ] at h
  exact h
theorem pow_zero_no (u : Int) (h : u < 128 ^ (0 + 1)) : ¬ 127 < u := by
  have : (128 : Int) ^ (0 + 1) = 128 := by decide
  omega

/-- What a call on a Writer leaves: the bytes bs, the error e; its block p and its data's block g alone may have turned. -/
def WrStep (B : Nat) (p : Nat) (g : Option Nat) (w w' : World) (bs : List Int) (e : Int) : Prop :=
  ∃ g', Wr B w' p g' bs e ∧ (g' = g ∨ ∃ k, w.heap.size ≤ k ∧ g' = some k) ∧ Kept (fun k => k = p ∨ g = some k) w w'

theorem WrStep.refl {B p : Nat} {g : Option Nat} {w : World} {bs : List Int} {e : Int} (h : Wr B w p g bs e) : WrStep B p g w w bs e := ⟨g, h, .inl rfl, Kept.refl _ _⟩

/-- One step behind another. -/
theorem wr_trans {B p : Nat} {g g' g2 : Option Nat} {w w' w2 : World} {bs : List Int} {e : Int}
    (hg : g' = g ∨ ∃ k, w.heap.size ≤ k ∧ g' = some k) (hk : Kept (fun k => k = p ∨ g = some k) w w')
    (hw : Wr B w2 p g2 bs e) (hg2 : g2 = g' ∨ ∃ k, w'.heap.size ≤ k ∧ g2 = some k) (hk2 : Kept (fun k => k = p ∨ g' = some k) w' w2) :
    WrStep B p g w w2 bs e := by
  refine ⟨g2, hw, ?_, ?_⟩
  · rcases hg2 with rfl | ⟨k, h1, h2⟩
    · exact hg
    · exact .inr ⟨k, by have := hk.size; omega, h2⟩
  · refine hk.trans hk2 ?_
    intro i hi hs
    rcases hs with h | h
    · exact .inl h
    · rcases hg with rfl | ⟨k, h1, h2⟩
      · exact .inr h
      · rw [h2] at h; simp at h; omega

theorem WrStep.trans {B p : Nat} {g : Option Nat} {w w' w2 : World} {bs bs2 : List Int} {e e2 : Int}
    (h : WrStep B p g w w' bs e) (h2 : ∀ g', Wr B w' p g' bs e → WrStep B p g' w' w2 bs2 e2) : WrStep B p g w w2 bs2 e2 := by
  obtain ⟨g', a, b, c⟩ := h
  obtain ⟨g2, a2, b2, c2⟩ := h2 g' a
  exact wr_trans b c a2 b2 c2

set_option maxRecDepth 100000 in
set_option maxHeartbeats 800000 in
theorem wrow_any (B p : Nat) (g : Option Nat) (bs : List Int) (e : Int) (w : World) (u : Int) (h : Wr B w p g bs e) (hB : B ≤ w.heap.size) (hu0 : 0 ≤ u) (hu1 : u < 18446744073709551616) (hl : bs.length ≤ 1000000000) :
    Calls Try.prog 84 #[.pointer (some ⟨p, 0, none⟩), .int .u64 u] w fun x w' => x = .returned (.tuple #[]) ∧ WrStep B p g w w' (bs ++ rowF 10 u) e := by
  obtain ⟨i0, hi, hz0, hz1, hz2⟩ := info_parts Try.info5
  go_enter Try.func84, Try.ntmps84
  go_wp2
  go_loopw [1] (fun t wr => ∃ (f : Nat) (u' : Int) (bs' : List Int) (g' : Option Nat), t = .int .u64 u' ∧ 0 ≤ u' ∧ u' < 18446744073709551616 ∧ Wr B wr p g' bs' e ∧ bs' ++ rowF f u' = bs ++ rowF 10 u ∧ f ≤ 10 ∧ bs'.length + f = bs.length + 10 ∧ Hid (u' < 128 ^ (f + 1)) ∧
      (g' = g ∨ ∃ k, w.heap.size ≤ k ∧ g' = some k) ∧ Kept (fun k => k = p ∨ g = some k) w wr)
    (fun t _ => (intOf t).toNat)
  case atStart => exact ⟨10, u, bs, g, rfl, hu0, hu1, h, rfl, Nat.le_refl _, rfl, (show u < 128 ^ (10 + 1) by omega), .inl rfl, Kept.refl _ _⟩
  case round =>
    obtain ⟨f, u', bs', g', rfl, h0, h1, hw, hb, hf, hlen, hpow, hg, hk⟩ := hrel
    have hwo := hw
    obtain ⟨v, hv1, hv2, hv3⟩ := hwo
    obtain ⟨c0, c1⟩ := cell_of_pair hv1
    have Hb : Hid (bs' ++ rowF f u' = bs ++ rowF 10 u) := hb
    clear hb h
    by_cases hc : 127 < u'
    · have a1 := and127_u64 u' h0 h1
      have a2 : IntKind.u8.wrap (u' % 128) = u' % 128 := by rw [IntKind.wrap_u8]; omega
      have a3 := or128_u8 (u' % 128) (by omega) (by omega)
      go_wp2_with (at_builtin; refine wpList_append_lies _ rfl _ _ _ rfl B 5 i0 (.int .u8 0) 1 1 Try.underlying40 hi hz0 hz1 hz2 rfl (by omega) v bs'.length (B8 bs') rfl (hv3.alloc _) ⟨wr.heap.size, 0, none⟩ 1 1 [.int .u8 (u' % 128 + 128)] rfl rfl (World.news_of_block (cs := #[.int .u8 (u' % 128 + 128)]) (t := 5) (fr := (0, 0)) (heap_alloc_new wr _)) (by simp [Value.oneCell']) (by omega) (by unfold maxLen; omega) (by omega) (by have := hk.size; simp; omega) (wr.heap.size + 1) (by simp) ?_)
      intro g2 cap w1 hown hgrow hat hlt
      subst hv2
      have hb1 := push_block hv1 hw _ hgrow
      have P := push_step (ns := [u' % 128 + 128]) hv1 hw _ hgrow hown hat
      obtain ⟨d0, d1⟩ := cell_of_pair hb1
      have d2 := free_of_block (o := 0) hb1
      clear hb1 hown hgrow hat c0 c1
      go_wp2
      go_roundw
      case rel =>
        cases f with
        | zero => exact absurd hc (pow_zero_no u' hpow)
        | succ f =>
          obtain ⟨gg, q1, q2, q3⟩ := wr_trans hg hk P.1 P.2.1 P.2.2
          refine ⟨f, u' / 128, bs' ++ [u' % 128 + 128], gg, by first | rfl | go_num, by omega, by omega, q1, ?_, by omega, by simp; omega, pow_step f u' hpow, q2, q3⟩
          rw [← Hb.out, rowF_more f u' hc, List.append_assoc]
      case measure => simp [intOf]; omega
    · have a2 : IntKind.u8.wrap u' = u' := by rw [IntKind.wrap_u8]; omega
      go_wp2_with (at_builtin; refine wpList_append_lies _ rfl _ _ _ rfl B 5 i0 (.int .u8 0) 1 1 Try.underlying40 hi hz0 hz1 hz2 rfl (by omega) v bs'.length (B8 bs') rfl (hv3.alloc _) ⟨wr.heap.size, 0, none⟩ 1 1 [.int .u8 u'] rfl rfl (World.news_of_block (cs := #[.int .u8 u']) (t := 5) (fr := (0, 0)) (heap_alloc_new wr _)) (by simp [Value.oneCell']) (by omega) (by unfold maxLen; omega) (by omega) (by have := hk.size; simp; omega) (wr.heap.size + 1) (by simp) ?_)
      intro g2 cap w1 hown hgrow hat hlt
      subst hv2
      have hb1 := push_block hv1 hw _ hgrow
      have P := push_step (ns := [u']) hv1 hw _ hgrow hown hat
      obtain ⟨d0, d1⟩ := cell_of_pair hb1
      have d2 := free_of_block (o := 0) hb1
      clear hb1 hown hgrow hat c0 c1
      go_wp2
      go_end0
      refine ⟨rfl, ?_⟩
      rw [← Hb.out, rowF_last f u' (by omega)]
      exact wr_trans hg hk P.1 P.2.1 P.2.2

end Go.Proofs.Ytiammlngbejhkaa

namespace Go.Proofs.Ytiammlngbejhkaa
open Go.RowKit

theorem ret_int {k : IntKind} {a b : Int} (h : a = b) : Ending.returned (.int k a) = .returned (.int k b) := by rw [h]

set_option maxHeartbeats 400000 in
theorem open_any (B p : Nat) (g : Option Nat) (bs : List Int) (e : Int) (w : World) (h : Wr B w p g bs e) :
    Calls Try.prog 83 #[.pointer (some ⟨p, 0, none⟩)] w fun x w' => x = .returned (.bool (e == 0)) ∧ w' = w := by
  obtain ⟨v, h1, _, _⟩ := h
  obtain ⟨c0, c1⟩ := cell_of_pair h1
  clear h1
  go_enter Try.func83, Try.ntmps83
  go_wp2
  go_ret
  exact ⟨rfl, rfl⟩

set_option maxHeartbeats 400000 in
theorem open_nil (w : World) :
    Calls Try.prog 83 #[.pointer none] w fun x w' => x = .returned (.bool false) ∧ w' = w := by
  go_enter Try.func83, Try.ntmps83
  go_wp2
  go_ret
  exact ⟨rfl, rfl⟩

set_option maxHeartbeats 400000 in
theorem wdata_nil (w : World) :
    Calls Try.prog 54 #[.pointer none] w fun x w' => x = .returned (.slice none 0 0) ∧ w' = w := by
  go_enter Try.func54, Try.ntmps54
  go_wp2
  go_ret
  exact ⟨rfl, rfl⟩

/-- 'fold'. -/
def foldZ (v : Int) : Int := if v < 0 then -2 * v - 1 else 2 * v

set_option maxHeartbeats 400000 in
theorem fold_any (v : Int) (w : World) (h0 : -9223372036854775808 ≤ v) (h1 : v < 9223372036854775808) :
    Calls Try.prog 85 #[.int .i64 v] w fun x w' => x = .returned (.int .u64 (foldZ v)) ∧ w' = w := by
  by_cases hv : v < 0
  · have e1 : IntKind.u64.wrap (IntKind.u64.wrap v * 2) = 2 * v + 18446744073709551616 := by
      rw [IntKind.wrap_u64, IntKind.wrap_u64]; omega
    have e2 := xorMax_u64 (2 * v + 18446744073709551616) (by omega) (by omega)
    have H1 : Hid _ := e1
    have H2 : Hid _ := e2
    clear e1 e2
    go_enter Try.func85, Try.ntmps85
    go_wp2
    all_goals go_ret
    all_goals first
      | (refine ⟨ret_int ?_, rfl⟩; rw [H1.out, H2.out]; unfold foldZ; rw [if_pos hv]; omega)
      | (exfalso; revert ‹IntKind.u64.signed = true›; decide)
  · go_enter Try.func85, Try.ntmps85
    go_wp2
    go_ret
    refine ⟨ret_int ?_, rfl⟩
    unfold foldZ; rw [if_neg (by omega)]; omega

/-- 'unfold'. -/
def unfoldZ (u : Int) : Int := if u % 2 = 0 then u / 2 else -1 - u / 2

set_option maxHeartbeats 400000 in
theorem unfold_any (u : Int) (w : World) (h0 : 0 ≤ u) (h1 : u < 18446744073709551616) :
    Calls Try.prog 91 #[.int .u64 u] w fun x w' => x = .returned (.int .i64 (unfoldZ u)) ∧ w' = w := by
  have a1 := and1_u64 u h0 h1
  by_cases hv : u % 2 = 0
  · go_enter Try.func91, Try.ntmps91
    go_wp2
    go_ret
    refine ⟨ret_int ?_, rfl⟩
    unfold unfoldZ; rw [if_pos hv]
  · have hv' : u % 2 = 1 := by omega
    have H1 : Hid _ := xorMax_i64 (u / 2) (by omega) (by omega)
    have hz : unfoldZ u = -1 - u / 2 := by unfold unfoldZ; rw [if_neg hv]
    have Hz : Hid _ := hz
    clear hv hz
    go_enter Try.func91, Try.ntmps91
    go_wp2
    all_goals go_ret
    all_goals first
      | (refine ⟨ret_int ?_, rfl⟩; rw [H1.out, Hz.out]; done)
      | (exfalso; revert ‹¬ IntKind.i64.signed = true›; decide)

end Go.Proofs.Ytiammlngbejhkaa

namespace Go.Proofs.Ytiammlngbejhkaa
open Go.RowKit

def fixedB (n : Nat) (v : Int) : List Int := (List.range n).map fun i => v / 256 ^ i % 256
theorem fixedB_succ (k : Nat) (v : Int) : fixedB (k + 1) v = fixedB k v ++ [v / 256 ^ k % 256] := by
  simp [fixedB, List.range_succ]
theorem fixedB_len (k : Nat) (v : Int) : (fixedB k v).length = k := by simp [fixedB]

theorem shr8 (v : Int) (k : Nat) (hk : k < 8) : Op.shift .shr .u64 v .i64 (8 * (k : Int)) = pure (.int .u64 (v / 256 ^ k)) := by
  rw [shift_shr_any _ _ _ _ (by omega)]
  have e : min (8 * (k : Int)).toNat IntKind.u64.bits = 8 * k := by simp only [IntKind.bits]; omega
  rw [e, Int.pow_mul]
  rfl

theorem div_bd (v : Int) (k : Nat) (h0 : 0 ≤ v) (h1 : v < 18446744073709551616) : 0 ≤ v / 256 ^ k ∧ v / 256 ^ k < 18446744073709551616 := by
  have hp : (0 : Int) < 256 ^ k := Int.pow_pos (by omega)
  refine ⟨Int.ediv_nonneg h0 (by omega), ?_⟩
  have := Int.ediv_le_self (256 ^ k) h0
  omega

theorem grownBy_undrew {x y : World} {r : Option Nat} (h : x.drew.grownBy y r) : x.grownBy y r := ⟨h.os, h.tape, h.output, h.size, h.block⟩

set_option maxRecDepth 100000 in
set_option maxHeartbeats 1600000 in
theorem wfixed_ok (B p : Nat) (g : Option Nat) (bs : List Int) (w : World) (v : Int) (n : Nat) (h : Wr B w p g bs 0) (hB : B ≤ w.heap.size) (_hu0 : 0 ≤ v) (_hu1 : v < 18446744073709551616) (hn : n ≤ 8) (hl : bs.length ≤ 1000000000) :
    Calls Try.prog 82 #[.pointer (some ⟨p, 0, none⟩), .int .u64 v, .int .i64 n] w fun x w' => x = .returned (.tuple #[]) ∧ WrStep B p g w w' (bs ++ fixedB n v) 0 := by
  obtain ⟨i0, hi, hz0, hz1, hz2⟩ := info_parts Try.info5
  go_enter Try.func82, Try.ntmps82
  go_wp2_with (go_at_call 83; refine (open_any B p g bs 0 _ h).mono ?_; rintro e w' ⟨rfl, hww⟩; subst hww)
  go_loopw [6, 20] (fun _ i wr => ∃ (k : Nat) (g' : Option Nat), k ≤ n ∧ i = .int .i64 k ∧ Wr B wr p g' (bs ++ fixedB k v) 0 ∧
      (g' = g ∨ ∃ k, w'.heap.size ≤ k ∧ g' = some k) ∧ Kept (fun k => k = p ∨ g = some k) w' wr)
    (fun _ i _ => n - (intOf i).toNat)
  case atStart => exact ⟨0, g, Nat.zero_le _, rfl, by simpa [fixedB] using h, .inl rfl, Kept.refl _ _⟩
  case round =>
    obtain ⟨k, g', hk, rfl, hw, hg, hkp⟩ := hrel
    by_cases hc : k < n
    · have hwo := hw
      obtain ⟨v0, hv1, hv2, hv3⟩ := hwo
      obtain ⟨c0, c1⟩ := cell_of_pair hv1
      have hp := hw.lt
      have f0 := free_of_block (o := 0) hv1
      have hsz := hkp.size
      have hlen : (bs ++ fixedB k v).length = bs.length + k := by simp [fixedB]
      have hw8 : IntKind.i64.wrap (8 * (k : Int)) = 8 * (k : Int) := by rw [IntKind.wrap_i64]; omega
      obtain ⟨z, hz⟩ : ∃ z, z = v / 256 ^ k % 256 := ⟨_, rfl⟩
      have hwz : IntKind.u8.wrap (v / 2 ^ (8 * (k : Int)).toNat) = z := by
        rw [IntKind.wrap_u8, hz, show (8 * (k : Int)).toNat = 8 * k from by omega, Int.pow_mul]; rfl
      have Hz : Hid (z = v / 256 ^ k % 256) := hz
      have hnew := World.new_ne wr ⟨p, 0, none⟩ c0
      obtain ⟨xs, hxs⟩ : ∃ xs, xs = bs ++ fixedB k v := ⟨_, rfl⟩
      rw [← hxs] at hlen hw hv3
      have Hx : Hid _ := hxs
      subst hv2
      have hne : v0.ownBlock ≠ some p := hw.ne
      have Hw : Hid _ := hw
      have Hg : Hid _ := hg
      have Hl : Hid _ := hlen
      have Hv1 : Hid _ := hv1
      clear h hw hg hlen hz hxs hv1
      go_wp2_with fail
      go_region_law
        ((refine step_append_lies _ (by rfl) _ _ _ (by rfl) B 5 i0 _ 1 1 Try.underlying40 hi hz0 hz1 hz2 rfl (by omega) v0 xs.length (B8 xs) (by rfl) ((hv3.alloc _).drew)
            ⟨wr.heap.size, 0, none⟩ 1 1 [.int .u8 z] (by rfl) (by rfl) (World.news_of_block (cs := #[.int .u8 z]) (t := 5) (fr := (0, 0)) (heap_alloc_new wr _)) (by simp [Value.oneCell'])
            (by omega) (by rw [Hl.out]; unfold maxLen; omega) (by rw [Hl.out]; omega) (by simp; omega) (wr.heap.size + 1) (by simp) ?_; intro gg cap w1 hown1 hgrow hat hlt; have f1 := (hgrow.frozen_far ⟨p, 0, none⟩ (by simp; omega) (Ne.symm hne)).trans ((frozen?_alloc_cells _ _ _ _).trans f0); have c2 := (hgrow.cell_far ⟨p, 0, none⟩ (by simp; omega) (Ne.symm hne)).trans ((World.cell?_alloc_past _ _ _ (by simpa using hp)).trans c0)))
      all_goals
        have P := push_step (ns := [z]) Hv1.out Hw.out _ (grownBy_undrew hgrow) hown1 hat
        clear hgrow hown1 hat
        go_wp2
        go_roundw
        case rel =>
          obtain ⟨gx, q1, q2, q3⟩ := wr_trans Hg.out hkp P.1 P.2.1 P.2.2
          refine ⟨k + 1, gx, by omega, by go_num, ?_, q2, q3⟩
          rw [fixedB_succ, ← List.append_assoc, ← Hx.out, ← Hz.out]
          exact q1
        case measure => simp [intOf]; omega
    · obtain rfl : k = n := by omega
      clear h
      go_wp2
      go_end0
      exact ⟨rfl, g', hw, hg, hkp⟩

end Go.Proofs.Ytiammlngbejhkaa

namespace Go.Proofs.Ytiammlngbejhkaa
open Go.RowKit

/-- v is a slice whose elements are the bytes bs. -/
def Sl (w : World) (v : Value) (bs : List Int) : Prop :=
  ∃ ao cap, v = .slice ao bs.length cap ∧ bs.length ≤ cap ∧ (bs ≠ [] → ∃ b off, ao = some ⟨b, off, none⟩ ∧ ∀ j x, bs[j]? = some x → w.cell? ⟨b, off + j, none⟩ = some (.int .u8 x))

theorem add_lit (b off j : Nat) : (⟨b, off, none⟩ : Addr).add j = ⟨b, off + j, none⟩ := by
  unfold Addr.add; split <;> simp_all

theorem sl_of_owns {w : World} {B : Nat} {v : Value} {bs : List Int} {n : Nat} (h : w.ownsRow B 5 1 v n (B8 bs)) : Sl w v bs := by
  have hl : n = bs.length := by have := h.1; simp at this; omega
  subst hl
  rcases h.2 with ⟨rfl, h0⟩ | ⟨g, cap, cur, rfl, hb, hg, hc, _, hs, ht⟩
  · have : bs = [] := List.eq_nil_of_length_eq_zero h0
    subst this
    exact ⟨none, 0, rfl, Nat.le_refl _, fun h => absurd rfl h⟩
  · refine ⟨_, cap, rfl, hc, fun _ => ⟨g, 0, rfl, ?_⟩⟩
    intro j x hx
    have := h.cells (g := g) rfl j (.int .u8 x) (by simp [B8, hx])
    rwa [add_lit] at this

theorem Sl.kept {w w' : World} {v : Value} {bs : List Int} {S : Nat → Prop} (h : Sl w v bs) (hk : Kept S w w') (hn : ∀ k, v.ownBlock = some k → ¬ S k) : Sl w' v bs := by
  obtain ⟨ao, cap, rfl, hc, hx⟩ := h
  refine ⟨ao, cap, rfl, hc, fun hne => ?_⟩
  obtain ⟨b, off, rfl, hj⟩ := hx hne
  exact ⟨b, off, rfl, fun j x e => hk.cell (hj j x e) (hn b rfl)⟩

theorem Sl.below {w w' : World} {v : Value} {bs : List Int} (h : Sl w v bs) (hk : Below w.heap.size w w') : Sl w' v bs :=
  h.kept (Kept.ofBelow hk) (fun _ _ h => h)

/-- A slice of its own, whole in block g. -/
def Own (w : World) (g : Nat) (bs : List Int) : Prop := w.heap[g]? = some (.cells (B8 bs).toArray 5 (0, 0))

theorem Own.owns {w : World} {g : Nat} {bs : List Int} {B : Nat} (h : Own w g bs) (hB : B ≤ g) (hl : bs.length ≤ maxLen) : w.ownsRow B 5 1 (.slice (some ⟨g, 0, none⟩) bs.length bs.length) bs.length (B8 bs) := by
  refine ⟨by simp, .inr ⟨g, bs.length, _, rfl, hB, h, Nat.le_refl _, hl, by simp, ?_⟩⟩
  rw [List.take_of_length_le (by simp)]

theorem madeCells_bytes (n : Nat) : (madeCells (Value.int .u8 0).cells (n * 1)).toList.length = n := by
  simp [madeCells, Value.cells]

set_option maxRecDepth 100000 in
set_option maxHeartbeats 800000 in
theorem clone_any (v : Value) (bs : List Int) (w : World) (h : Sl w v bs) (hl : bs.length ≤ 1000000000) :
    Calls Try.prog 86 #[v] w fun x w' => x = .returned (.slice (some ⟨w.heap.size, 0, none⟩) bs.length bs.length) ∧ Own w' w.heap.size bs ∧ Below w.heap.size w w' := by
  obtain ⟨i0, hi, hz0, hz1, hz2⟩ := info_parts Try.info5
  obtain ⟨ao, cap, rfl, hc, hx⟩ := h
  have hsz : (Try.prog.info? 5).map (·.size) = some 1 := by rw [hi]; simp [hz1]
  have Hx : Hid _ := hx
  clear hx
  go_enter Try.func86, Try.ntmps86
  go_wp2_with (at_make; refine wpList_make_full _ rfl _ _ 40 rfl w.heap.size 5 i0 (.int .u8 0) 1 Try.underlying40 hi hz0 hz1 _ _ _ _ bs.length rfl rfl rfl rfl (by rw [hz2]; omega) (by unfold maxLen; omega) (Nat.le_refl _) ?_)
  intro w1 ho hg
  have hbel : Below w.heap.size w w1 := (Below.refl _ _).grown hg (Nat.le_refl _) (by intro k hk; cases hk)
  have hrow : ∃ cur : List Value, w1.heap[w.heap.size]? = some (.cells cur.toArray 5 (0, 0)) ∧ cur.length = bs.length := by
    rcases ho.2 with ⟨h1, _⟩ | ⟨g, cp, cur, h1, _, h2, _, _, h3, _⟩
    · cases h1
    · simp at h1
      obtain ⟨rfl, rfl⟩ := h1
      exact ⟨cur.toList, by simpa using h2, by simpa using h3⟩
  obtain ⟨cur, hcur, hcl⟩ := hrow
  have Hl : Hid _ := hcl
  clear ho hg hcl
  go_wp2_with (refine wpList_copy_splice (by rfl) (.tmp 7) (.tmp 8) 40 40 rfl 5 Try.underlying40 hsz _ _ _ _ _ _ rfl rfl w.heap.size 0 cur 5 hcur (B8 bs) (by simp) ?hpos (by rw [Hl.out]; simp) (by intro u hu; obtain ⟨_, _, rfl⟩ := List.mem_map.1 hu; rfl) w.heap.size w hbel (Nat.le_refl _) ?_)
  case hpos =>
    intro hp
    have hne : bs ≠ [] := by intro e; subst e; simp at hp
    obtain ⟨b, off, rfl, hj⟩ := Hx.out hne
    refine ⟨_, rfl, ?_⟩
    intro j u hu
    rw [add_lit]
    have := hj j u hu
    exact (hbel.cell (World.block_lt_of_cell? _ _ this)).trans this
  intro w2 hg2 hb2
  go_wp2
  go_ret
  refine ⟨rfl, ?_, hb2⟩
  have := hg2.out
  unfold Own
  rw [this]
  congr 3
  have := Hl.out
  simp [splice]
  omega

end Go.Proofs.Ytiammlngbejhkaa

namespace Go.Proofs.Ytiammlngbejhkaa
open Go.RowKit

/-- A store of an error into a Writer. -/
theorem wr_err {B p : Nat} {g : Option Nat} {bs : List Int} {e e2 : Int} {w : World} (h : Wr B w p g bs e) : WrStep B p g w (w.setCell ⟨p, 1, none⟩ (.int .i64 e2)) bs e2 := by
  have hne := h.ne
  obtain ⟨v, h1, rfl, h3⟩ := h
  have hk : Kept (fun k => k = p) w (w.setCell ⟨p, 1, none⟩ (.int .i64 e2)) := Kept.setCell (p := ⟨p, 1, none⟩) (Kept.refl (fun k => k = p) w) (fun _ => rfl) _
  exact ⟨v.ownBlock, ⟨v, heap_setCell_same1 h1, rfl, ownsRow_kept h3 hk (fun k hj e => hne (by rw [← e]; exact hj))⟩, .inl rfl, hk.mono (fun _ _ h => .inl h)⟩

/-- What a call leaves of (bytes, error). -/
def wfixZ (s : List Int × Int) (v n : Int) : List Int × Int := if s.2 = 0 then (if n < 0 ∨ 8 < n then (s.1, 1) else (s.1 ++ fixedB n.toNat v, 0)) else s
def wnumZ (s : List Int × Int) (v : Int) : List Int × Int := if s.2 = 0 then (if v < 0 then (s.1, 15) else (s.1 ++ rowF 10 v, 0)) else s
def wintZ (s : List Int × Int) (v : Int) : List Int × Int := if s.2 = 0 then (s.1 ++ rowF 10 (foldZ v), 0) else s
def wtextZ (s : List Int × Int) (t : List Int) : List Int × Int := if s.2 = 0 then (s.1 ++ rowF 10 t.length ++ t, 0) else s

set_option maxRecDepth 100000 in
set_option maxHeartbeats 800000 in
theorem wfixed_any (B p : Nat) (g : Option Nat) (bs : List Int) (e : Int) (w : World) (v : Int) (n : Int) (h : Wr B w p g bs e) (hB : B ≤ w.heap.size) (hu0 : 0 ≤ v) (hu1 : v < 18446744073709551616) (hl : bs.length ≤ 1000000000) :
    Calls Try.prog 82 #[.pointer (some ⟨p, 0, none⟩), .int .u64 v, .int .i64 n] w fun x w' => x = .returned (.tuple #[]) ∧ WrStep B p g w w' (wfixZ (bs, e) v n).1 (wfixZ (bs, e) v n).2 := by
  by_cases he : e = 0
  · subst he
    by_cases hn : n < 0 ∨ 8 < n
    · have hr : wfixZ (bs, 0) v n = (bs, 1) := by unfold wfixZ; rw [if_pos rfl, if_pos hn]
      rw [hr]
      have hh := h
      obtain ⟨v0, hv1, hv2, hv3⟩ := hh
      obtain ⟨c0, c1⟩ := cell_of_pair hv1
      have f1 := free_of_block (o := 1) hv1
      clear hv1 hv2 hv3 hr
      rcases hn with hn | hn
      · go_enter Try.func82, Try.ntmps82
        go_wp2_with (go_at_call 83; refine (open_any B p g bs 0 _ h).mono ?_; rintro e w' ⟨rfl, hww⟩; subst hww)
        refine bodyPost_ret (results_none Try.results82 _ _ _) rfl ?_
        exact ⟨rfl, wr_err h⟩
      · have hn' : ¬ n < 0 := by omega
        go_enter Try.func82, Try.ntmps82
        go_wp2_with (go_at_call 83; refine (open_any B p g bs 0 _ h).mono ?_; rintro e w' ⟨rfl, hww⟩; subst hww)
        refine bodyPost_ret (results_none Try.results82 _ _ _) rfl ?_
        exact ⟨rfl, wr_err h⟩
    · have hr : wfixZ (bs, 0) v n = (bs ++ fixedB n.toNat v, 0) := by unfold wfixZ; rw [if_pos rfl, if_neg hn]
      rw [hr]
      obtain ⟨k, rfl⟩ := Int.eq_ofNat_of_zero_le (show 0 ≤ n by omega)
      exact wfixed_ok B p g bs w v k h hB hu0 hu1 (by omega) hl
  · have hr : wfixZ (bs, e) v n = (bs, e) := by unfold wfixZ; rw [if_neg he]
    rw [hr]
    have he' : (e == 0) = false := by simpa using he
    clear hr
    go_enter Try.func82, Try.ntmps82
    go_wp2_with (go_at_call 83; refine (open_any B p g bs e _ h).mono ?_; rintro e w' ⟨rfl, hww⟩; subst hww)
    refine bodyPost_ret (results_none Try.results82 _ _ _) rfl ?_
    exact ⟨rfl, WrStep.refl h⟩

set_option maxRecDepth 100000 in
set_option maxHeartbeats 800000 in
theorem wbyte_any (B p : Nat) (g : Option Nat) (bs : List Int) (e : Int) (w : World) (v : Int) (h : Wr B w p g bs e) (hB : B ≤ w.heap.size) (hu0 : 0 ≤ v) (hu1 : v < 256) (hl : bs.length ≤ 1000000000) :
    Calls Try.prog 51 #[.pointer (some ⟨p, 0, none⟩), .int .u8 v] w fun x w' => x = .returned (.tuple #[]) ∧ WrStep B p g w w' (wfixZ (bs, e) v 1).1 (wfixZ (bs, e) v 1).2 := by
  go_enter Try.func51, Try.ntmps51
  go_wp2_with (go_at_call 82; refine (wfixed_any B p g bs e _ v 1 h hB hu0 (by omega) hl).mono ?_; rintro x w' ⟨rfl, hw1⟩)
  go_end0
  exact ⟨rfl, by assumption⟩

theorem foldZ_bd (v : Int) (h0 : -9223372036854775808 ≤ v) (h1 : v < 9223372036854775808) : 0 ≤ foldZ v ∧ foldZ v < 18446744073709551616 := by
  unfold foldZ; split <;> omega

set_option maxRecDepth 100000 in
set_option maxHeartbeats 800000 in
theorem wint_any (B p : Nat) (g : Option Nat) (bs : List Int) (e : Int) (w : World) (v : Int) (h : Wr B w p g bs e) (hB : B ≤ w.heap.size) (hu0 : -9223372036854775808 ≤ v) (hu1 : v < 9223372036854775808) (hl : bs.length ≤ 1000000000) :
    Calls Try.prog 52 #[.pointer (some ⟨p, 0, none⟩), .int .i64 v] w fun x w' => x = .returned (.tuple #[]) ∧ WrStep B p g w w' (wintZ (bs, e) v).1 (wintZ (bs, e) v).2 := by
  by_cases he : e = 0
  · subst he
    have hr : wintZ (bs, 0) v = (bs ++ rowF 10 (foldZ v), 0) := by unfold wintZ; rw [if_pos rfl]
    rw [hr]
    obtain ⟨hf0, hf1⟩ := foldZ_bd v hu0 hu1
    clear hr
    go_enter Try.func52, Try.ntmps52
    go_wp2_with (first | (go_at_call 83; refine (open_any B p g bs 0 _ h).mono ?_; rintro e w' ⟨rfl, hww⟩; subst hww) | (go_at_call 85; refine (fold_any v _ hu0 hu1).mono ?_; rintro e w' ⟨rfl, hww⟩; subst hww) | (go_at_call 84; refine (wrow_any B p g bs 0 _ (foldZ v) h hB hf0 hf1 hl).mono ?_; rintro e w' ⟨rfl, hw1⟩))
    go_end0
    exact ⟨rfl, by assumption⟩
  · have hr : wintZ (bs, e) v = (bs, e) := by unfold wintZ; rw [if_neg he]
    rw [hr]
    have he' : (e == 0) = false := by simpa using he
    clear hr
    go_enter Try.func52, Try.ntmps52
    go_wp2_with (go_at_call 83; refine (open_any B p g bs e _ h).mono ?_; rintro e w' ⟨rfl, hww⟩; subst hww)
    refine bodyPost_ret (results_none Try.results52 _ _ _) rfl ?_
    exact ⟨rfl, WrStep.refl h⟩

set_option maxRecDepth 100000 in
set_option maxHeartbeats 800000 in
theorem wdata_any (B p : Nat) (g : Option Nat) (bs : List Int) (e : Int) (w : World) (h : Wr B w p g bs e) (hl : bs.length ≤ 1000000000) :
    Calls Try.prog 54 #[.pointer (some ⟨p, 0, none⟩)] w fun x w' => x = .returned (.slice (some ⟨w.heap.size, 0, none⟩) bs.length bs.length) ∧ Own w' w.heap.size bs ∧ Below w.heap.size w w' := by
  obtain ⟨v, h1, _, h3⟩ := h
  obtain ⟨c0, c1⟩ := cell_of_pair h1
  have hs := sl_of_owns h3
  clear h1 h3
  go_enter Try.func54, Try.ntmps54
  go_wp2_with (go_at_call 86; refine (clone_any v bs _ hs hl).mono ?_; rintro x w' ⟨rfl, hw1, hw2⟩)
  go_ret
  exact ⟨rfl, by assumption, by assumption⟩

end Go.Proofs.Ytiammlngbejhkaa
