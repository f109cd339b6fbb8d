import Derived.Test.YtiammlngbejhkaaK01
import Derived.Deep.AppendSrc
import Derived.Lib.AppendStr
import Derived.Laws.BytesArg
namespace Go.Proofs.Ytiammlngbejhkaa
open Go.RowKit

/-- The row of sevens of u, in at most f + 1 bytes. -/
def rowF : Nat → Int → List Int
  | 0, u => [u]
  | f + 1, u => if 127 < u then (u % 128 + 128) :: rowF f (u / 128) else [u]

theorem rowF_more (f : Nat) (u : Int) (h : 127 < u) : rowF (f + 1) u = [u % 128 + 128] ++ rowF f (u / 128) := by
  rw [rowF, if_pos h]; rfl
theorem rowF_last (f : Nat) (u : Int) (h : ¬ 127 < u) : rowF f u = [u] := by
  cases f with
  | zero => rfl
  | succ f => rw [rowF, if_neg h]

theorem pow_step (f : Nat) (u : Int) (h : u < 128 ^ (f + 1 + 1)) : u / 128 < 128 ^ (f + 1) := by
  apply Int.ediv_lt_of_lt_mul (by omega)
  rw [Int.pow_succ] at h
  exact h
theorem pow_zero_no (u : Int) (h : u < 128 ^ (0 + 1)) : ¬ 127 < u := by
  have : (128 : Int) ^ (0 + 1) = 128 := by decide
  omega

/-- What a call on a Writer leaves: the bytes bs, the error e; its block p and its data's block g alone may have turned. -/
def WrStep (B : Nat) (p : Nat) (g : Option Nat) (w w' : World) (bs : List Int) (e : Int) : Prop :=
  ∃ g', Wr B w' p g' bs e ∧ (g' = g ∨ ∃ k, w.heap.size ≤ k ∧ g' = some k) ∧ Kept (fun k => k = p ∨ g = some k) w w'

theorem WrStep.refl {B p : Nat} {g : Option Nat} {w : World} {bs : List Int} {e : Int} (h : Wr B w p g bs e) : WrStep B p g w w bs e := ⟨g, h, .inl rfl, Kept.refl _ _⟩

/-- One step behind another. -/
theorem wr_trans {B p : Nat} {g g' g2 : Option Nat} {w w' w2 : World} {bs : List Int} {e : Int}
    (hg : g' = g ∨ ∃ k, w.heap.size ≤ k ∧ g' = some k) (hk : Kept (fun k => k = p ∨ g = some k) w w')
    (hw : Wr B w2 p g2 bs e) (hg2 : g2 = g' ∨ ∃ k, w'.heap.size ≤ k ∧ g2 = some k) (hk2 : Kept (fun k => k = p ∨ g' = some k) w' w2) :
    WrStep B p g w w2 bs e := by
  refine ⟨g2, hw, ?_, ?_⟩
  · rcases hg2 with rfl | ⟨k, h1, h2⟩
    · exact hg
    · exact .inr ⟨k, by have := hk.size; omega, h2⟩
  · refine hk.trans hk2 ?_
    intro i hi hs
    rcases hs with h | h
    · exact .inl h
    · rcases hg with rfl | ⟨k, h1, h2⟩
      · exact .inr h
      · rw [h2] at h; simp at h; omega

theorem WrStep.trans {B p : Nat} {g : Option Nat} {w w' w2 : World} {bs bs2 : List Int} {e e2 : Int}
    (h : WrStep B p g w w' bs e) (h2 : ∀ g', Wr B w' p g' bs e → WrStep B p g' w' w2 bs2 e2) : WrStep B p g w w2 bs2 e2 := by
  obtain ⟨g', a, b, c⟩ := h
  obtain ⟨g2, a2, b2, c2⟩ := h2 g' a
  exact wr_trans b c a2 b2 c2

set_option maxRecDepth 100000 in
set_option maxHeartbeats 800000 in
theorem wrow_any (B p : Nat) (g : Option Nat) (bs : List Int) (e : Int) (w : World) (u : Int) (h : Wr B w p g bs e) (hB : B ≤ w.heap.size) (hu0 : 0 ≤ u) (hu1 : u < 18446744073709551616) (hl : bs.length ≤ 1000000000) :
    Calls Try.prog 84 #[.pointer (some ⟨p, 0, none⟩), .int .u64 u] w fun x w' => x = .returned (.tuple #[]) ∧ WrStep B p g w w' (bs ++ rowF 10 u) e := by
  obtain ⟨i0, hi, hz0, hz1, hz2⟩ := info_parts Try.info5
  go_enter Try.func84, Try.ntmps84
  go_wp2
  go_loopw [1] (fun t wr => ∃ (f : Nat) (u' : Int) (bs' : List Int) (g' : Option Nat), t = .int .u64 u' ∧ 0 ≤ u' ∧ u' < 18446744073709551616 ∧ Wr B wr p g' bs' e ∧ bs' ++ rowF f u' = bs ++ rowF 10 u ∧ f ≤ 10 ∧ bs'.length + f = bs.length + 10 ∧ Hid (u' < 128 ^ (f + 1)) ∧
      (g' = g ∨ ∃ k, w.heap.size ≤ k ∧ g' = some k) ∧ Kept (fun k => k = p ∨ g = some k) w wr)
    (fun t _ => (intOf t).toNat)
  case atStart => exact ⟨10, u, bs, g, rfl, hu0, hu1, h, rfl, Nat.le_refl _, rfl, (show u < 128 ^ (10 + 1) by omega), .inl rfl, Kept.refl _ _⟩
  case round =>
    obtain ⟨f, u', bs', g', rfl, h0, h1, hw, hb, hf, hlen, hpow, hg, hk⟩ := hrel
    have hwo := hw
    obtain ⟨v, hv1, hv2, hv3⟩ := hwo
    obtain ⟨c0, c1⟩ := cell_of_pair hv1
    have Hb : Hid (bs' ++ rowF f u' = bs ++ rowF 10 u) := hb
    clear hb h
    by_cases hc : 127 < u'
    · have a1 := and127_u64 u' h0 h1
      have a2 : IntKind.u8.wrap (u' % 128) = u' % 128 := by rw [IntKind.wrap_u8]; omega
      have a3 := or128_u8 (u' % 128) (by omega) (by omega)
      go_wp2_with (at_builtin; refine wpList_append_lies _ rfl _ _ _ rfl B 5 i0 (.int .u8 0) 1 1 Try.underlying40 hi hz0 hz1 hz2 rfl (by omega) v bs'.length (B8 bs') rfl (hv3.alloc _) ⟨wr.heap.size, 0, none⟩ 1 1 [.int .u8 (u' % 128 + 128)] rfl rfl (World.news_of_block (cs := #[.int .u8 (u' % 128 + 128)]) (t := 5) (fr := (0, 0)) (heap_alloc_new wr _)) (by simp [Value.oneCell']) (by omega) (by unfold maxLen; omega) (by omega) (by have := hk.size; simp; omega) (wr.heap.size + 1) (by simp) ?_)
      intro g2 cap w1 hown hgrow hat hlt
      subst hv2
      have hb1 := push_block hv1 hw _ hgrow
      have P := push_step (ns := [u' % 128 + 128]) hv1 hw _ hgrow hown hat
      obtain ⟨d0, d1⟩ := cell_of_pair hb1
      have d2 := free_of_block (o := 0) hb1
      clear hb1 hown hgrow hat c0 c1
      go_wp2
      go_roundw
      case rel =>
        cases f with
        | zero => exact absurd hc (pow_zero_no u' hpow)
        | succ f =>
          obtain ⟨gg, q1, q2, q3⟩ := wr_trans hg hk P.1 P.2.1 P.2.2
          refine ⟨f, u' / 128, bs' ++ [u' % 128 + 128], gg, by first | rfl | go_num, by omega, by omega, q1, ?_, by omega, by simp; omega, pow_step f u' hpow, q2, q3⟩
          rw [← Hb.out, rowF_more f u' hc, List.append_assoc]
      case measure => simp [intOf]; omega
    · have a2 : IntKind.u8.wrap u' = u' := by rw [IntKind.wrap_u8]; omega
      go_wp2_with (at_builtin; refine wpList_append_lies _ rfl _ _ _ rfl B 5 i0 (.int .u8 0) 1 1 Try.underlying40 hi hz0 hz1 hz2 rfl (by omega) v bs'.length (B8 bs') rfl (hv3.alloc _) ⟨wr.heap.size, 0, none⟩ 1 1 [.int .u8 u'] rfl rfl (World.news_of_block (cs := #[.int .u8 u']) (t := 5) (fr := (0, 0)) (heap_alloc_new wr _)) (by simp [Value.oneCell']) (by omega) (by unfold maxLen; omega) (by omega) (by have := hk.size; simp; omega) (wr.heap.size + 1) (by simp) ?_)
      intro g2 cap w1 hown hgrow hat hlt
      subst hv2
      have hb1 := push_block hv1 hw _ hgrow
      have P := push_step (ns := [u']) hv1 hw _ hgrow hown hat
      obtain ⟨d0, d1⟩ := cell_of_pair hb1
      have d2 := free_of_block (o := 0) hb1
      clear hb1 hown hgrow hat c0 c1
      go_wp2
      go_end0
      refine ⟨rfl, ?_⟩
      rw [← Hb.out, rowF_last f u' (by omega)]
      exact wr_trans hg hk P.1 P.2.1 P.2.2

end Go.Proofs.Ytiammlngbejhkaa

namespace Go.Proofs.Ytiammlngbejhkaa
open Go.RowKit

theorem ret_int {k : IntKind} {a b : Int} (h : a = b) : Ending.returned (.int k a) = .returned (.int k b) := by rw [h]

set_option maxHeartbeats 400000 in
theorem open_any (B p : Nat) (g : Option Nat) (bs : List Int) (e : Int) (w : World) (h : Wr B w p g bs e) :
    Calls Try.prog 83 #[.pointer (some ⟨p, 0, none⟩)] w fun x w' => x = .returned (.bool (e == 0)) ∧ w' = w := by
  obtain ⟨v, h1, _, _⟩ := h
  obtain ⟨c0, c1⟩ := cell_of_pair h1
  clear h1
  go_enter Try.func83, Try.ntmps83
  go_wp2
  go_ret
  exact ⟨rfl, rfl⟩

set_option maxHeartbeats 400000 in
theorem open_nil (w : World) :
    Calls Try.prog 83 #[.pointer none] w fun x w' => x = .returned (.bool false) ∧ w' = w := by
  go_enter Try.func83, Try.ntmps83
  go_wp2
  go_ret
  exact ⟨rfl, rfl⟩

set_option maxHeartbeats 400000 in
theorem wdata_nil (w : World) :
    Calls Try.prog 54 #[.pointer none] w fun x w' => x = .returned (.slice none 0 0) ∧ w' = w := by
  go_enter Try.func54, Try.ntmps54
  go_wp2
  go_ret
  exact ⟨rfl, rfl⟩

/-- 'fold'. -/
def foldZ (v : Int) : Int := if v < 0 then -2 * v - 1 else 2 * v

set_option maxHeartbeats 400000 in
theorem fold_any (v : Int) (w : World) (h0 : -9223372036854775808 ≤ v) (h1 : v < 9223372036854775808) :
    Calls Try.prog 85 #[.int .i64 v] w fun x w' => x = .returned (.int .u64 (foldZ v)) ∧ w' = w := by
  by_cases hv : v < 0
  · have e1 : IntKind.u64.wrap (IntKind.u64.wrap v * 2) = 2 * v + 18446744073709551616 := by
      rw [IntKind.wrap_u64, IntKind.wrap_u64]; omega
    have e2 := xorMax_u64 (2 * v + 18446744073709551616) (by omega) (by omega)
    have H1 : Hid _ := e1
    have H2 : Hid _ := e2
    clear e1 e2
    go_enter Try.func85, Try.ntmps85
    go_wp2
    all_goals go_ret
    all_goals first
      | (refine ⟨ret_int ?_, rfl⟩; rw [H1.out, H2.out]; unfold foldZ; rw [if_pos hv]; omega)
      | (exfalso; revert ‹IntKind.u64.signed = true›; decide)
  · go_enter Try.func85, Try.ntmps85
    go_wp2
    go_ret
    refine ⟨ret_int ?_, rfl⟩
    unfold foldZ; rw [if_neg (by omega)]; omega

/-- 'unfold'. -/
def unfoldZ (u : Int) : Int := if u % 2 = 0 then u / 2 else -1 - u / 2

set_option maxHeartbeats 400000 in
theorem unfold_any (u : Int) (w : World) (h0 : 0 ≤ u) (h1 : u < 18446744073709551616) :
    Calls Try.prog 91 #[.int .u64 u] w fun x w' => x = .returned (.int .i64 (unfoldZ u)) ∧ w' = w := by
  have a1 := and1_u64 u h0 h1
  by_cases hv : u % 2 = 0
  · go_enter Try.func91, Try.ntmps91
    go_wp2
    go_ret
    refine ⟨ret_int ?_, rfl⟩
    unfold unfoldZ; rw [if_pos hv]
  · have hv' : u % 2 = 1 := by omega
    have H1 : Hid _ := xorMax_i64 (u / 2) (by omega) (by omega)
    have hz : unfoldZ u = -1 - u / 2 := by unfold unfoldZ; rw [if_neg hv]
    have Hz : Hid _ := hz
    clear hv hz
    go_enter Try.func91, Try.ntmps91
    go_wp2
    all_goals go_ret
    all_goals first
      | (refine ⟨ret_int ?_, rfl⟩; rw [H1.out, Hz.out]; done)
      | (exfalso; revert ‹¬ IntKind.i64.signed = true›; decide)

end Go.Proofs.Ytiammlngbejhkaa

namespace Go.Proofs.Ytiammlngbejhkaa
open Go.RowKit

def fixedB (n : Nat) (v : Int) : List Int := (List.range n).map fun i => v / 256 ^ i % 256
theorem fixedB_succ (k : Nat) (v : Int) : fixedB (k + 1) v = fixedB k v ++ [v / 256 ^ k % 256] := by
  simp [fixedB, List.range_succ]
theorem fixedB_len (k : Nat) (v : Int) : (fixedB k v).length = k := by simp [fixedB]

theorem shr8 (v : Int) (k : Nat) (hk : k < 8) : Op.shift .shr .u64 v .i64 (8 * (k : Int)) = pure (.int .u64 (v / 256 ^ k)) := by
  rw [shift_shr_any _ _ _ _ (by omega)]
  have e : min (8 * (k : Int)).toNat IntKind.u64.bits = 8 * k := by simp only [IntKind.bits]; omega
  rw [e, Int.pow_mul]
  rfl

theorem div_bd (v : Int) (k : Nat) (h0 : 0 ≤ v) (h1 : v < 18446744073709551616) : 0 ≤ v / 256 ^ k ∧ v / 256 ^ k < 18446744073709551616 := by
  have hp : (0 : Int) < 256 ^ k := Int.pow_pos (by omega)
  refine ⟨Int.ediv_nonneg h0 (by omega), ?_⟩
  have := Int.ediv_le_self (256 ^ k) h0
  omega

theorem grownBy_undrew {x y : World} {r : Option Nat} (h : x.drew.grownBy y r) : x.grownBy y r := ⟨h.os, h.tape, h.output, h.size, h.block⟩

set_option maxRecDepth 100000 in
set_option maxHeartbeats 1600000 in
theorem wfixed_ok (B p : Nat) (g : Option Nat) (bs : List Int) (w : World) (v : Int) (n : Nat) (h : Wr B w p g bs 0) (hB : B ≤ w.heap.size) (_hu0 : 0 ≤ v) (_hu1 : v < 18446744073709551616) (hn : n ≤ 8) (hl : bs.length ≤ 1000000000) :
    Calls Try.prog 82 #[.pointer (some ⟨p, 0, none⟩), .int .u64 v, .int .i64 n] w fun x w' => x = .returned (.tuple #[]) ∧ WrStep B p g w w' (bs ++ fixedB n v) 0 := by
  obtain ⟨i0, hi, hz0, hz1, hz2⟩ := info_parts Try.info5
  go_enter Try.func82, Try.ntmps82
  go_wp2_with (go_at_call 83; refine (open_any B p g bs 0 _ h).mono ?_; rintro e w' ⟨rfl, hww⟩; subst hww)
  go_loopw [6, 20] (fun _ i wr => ∃ (k : Nat) (g' : Option Nat), k ≤ n ∧ i = .int .i64 k ∧ Wr B wr p g' (bs ++ fixedB k v) 0 ∧
      (g' = g ∨ ∃ k, w'.heap.size ≤ k ∧ g' = some k) ∧ Kept (fun k => k = p ∨ g = some k) w' wr)
    (fun _ i _ => n - (intOf i).toNat)
  case atStart => exact ⟨0, g, Nat.zero_le _, rfl, by simpa [fixedB] using h, .inl rfl, Kept.refl _ _⟩
  case round =>
    obtain ⟨k, g', hk, rfl, hw, hg, hkp⟩ := hrel
    by_cases hc : k < n
    · have hwo := hw
      obtain ⟨v0, hv1, hv2, hv3⟩ := hwo
      obtain ⟨c0, c1⟩ := cell_of_pair hv1
      have hp := hw.lt
      have f0 := free_of_block (o := 0) hv1
      have hsz := hkp.size
      have hlen : (bs ++ fixedB k v).length = bs.length + k := by simp [fixedB]
      have hw8 : IntKind.i64.wrap (8 * (k : Int)) = 8 * (k : Int) := by rw [IntKind.wrap_i64]; omega
      obtain ⟨z, hz⟩ : ∃ z, z = v / 256 ^ k % 256 := ⟨_, rfl⟩
      have hwz : IntKind.u8.wrap (v / 2 ^ (8 * (k : Int)).toNat) = z := by
        rw [IntKind.wrap_u8, hz, show (8 * (k : Int)).toNat = 8 * k from by omega, Int.pow_mul]; rfl
      have Hz : Hid (z = v / 256 ^ k % 256) := hz
      have hnew := World.new_ne wr ⟨p, 0, none⟩ c0
      obtain ⟨xs, hxs⟩ : ∃ xs, xs = bs ++ fixedB k v := ⟨_, rfl⟩
      rw [← hxs] at hlen hw hv3
      have Hx : Hid _ := hxs
      subst hv2
      have hne : v0.ownBlock ≠ some p := hw.ne
      have Hw : Hid _ := hw
      have Hg : Hid _ := hg
      have Hl : Hid _ := hlen
      have Hv1 : Hid _ := hv1
      clear h hw hg hlen hz hxs hv1
      go_wp2_with fail
      go_region_law
        ((refine step_append_lies _ (by rfl) _ _ _ (by rfl) B 5 i0 _ 1 1 Try.underlying40 hi hz0 hz1 hz2 rfl (by omega) v0 xs.length (B8 xs) (by rfl) ((hv3.alloc _).drew)
            ⟨wr.heap.size, 0, none⟩ 1 1 [.int .u8 z] (by rfl) (by rfl) (World.news_of_block (cs := #[.int .u8 z]) (t := 5) (fr := (0, 0)) (heap_alloc_new wr _)) (by simp [Value.oneCell'])
            (by omega) (by rw [Hl.out]; unfold maxLen; omega) (by rw [Hl.out]; omega) (by simp; omega) (wr.heap.size + 1) (by simp) ?_; intro gg cap w1 hown1 hgrow hat hlt; have f1 := (hgrow.frozen_far ⟨p, 0, none⟩ (by simp; omega) (Ne.symm hne)).trans ((frozen?_alloc_cells _ _ _ _).trans f0); have c2 := (hgrow.cell_far ⟨p, 0, none⟩ (by simp; omega) (Ne.symm hne)).trans ((World.cell?_alloc_past _ _ _ (by simpa using hp)).trans c0)))
      all_goals
        have P := push_step (ns := [z]) Hv1.out Hw.out _ (grownBy_undrew hgrow) hown1 hat
        clear hgrow hown1 hat
        go_wp2
        go_roundw
        case rel =>
          obtain ⟨gx, q1, q2, q3⟩ := wr_trans Hg.out hkp P.1 P.2.1 P.2.2
          refine ⟨k + 1, gx, by omega, by go_num, ?_, q2, q3⟩
          rw [fixedB_succ, ← List.append_assoc, ← Hx.out, ← Hz.out]
          exact q1
        case measure => simp [intOf]; omega
    · obtain rfl : k = n := by omega
      clear h
      go_wp2
      go_end0
      exact ⟨rfl, g', hw, hg, hkp⟩

end Go.Proofs.Ytiammlngbejhkaa

namespace Go.Proofs.Ytiammlngbejhkaa
open Go.RowKit

/-- v is a slice whose elements are the bytes bs. -/
def Sl (w : World) (v : Value) (bs : List Int) : Prop :=
  ∃ ao cap, v = .slice ao bs.length cap ∧ bs.length ≤ cap ∧ (bs ≠ [] → ∃ b off, ao = some ⟨b, off, none⟩ ∧ ∀ j x, bs[j]? = some x → w.cell? ⟨b, off + j, none⟩ = some (.int .u8 x))

theorem add_lit (b off j : Nat) : (⟨b, off, none⟩ : Addr).add j = ⟨b, off + j, none⟩ := by
  unfold Addr.add; split <;> simp_all

theorem sl_of_owns {w : World} {B : Nat} {v : Value} {bs : List Int} {n : Nat} (h : w.ownsRow B 5 1 v n (B8 bs)) : Sl w v bs := by
  have hl : n = bs.length := by have := h.1; simp at this; omega
  subst hl
  rcases h.2 with ⟨rfl, h0⟩ | ⟨g, cap, cur, rfl, hb, hg, hc, _, hs, ht⟩
  · have : bs = [] := List.eq_nil_of_length_eq_zero h0
    subst this
    exact ⟨none, 0, rfl, Nat.le_refl _, fun h => absurd rfl h⟩
  · refine ⟨_, cap, rfl, hc, fun _ => ⟨g, 0, rfl, ?_⟩⟩
    intro j x hx
    have := h.cells (g := g) rfl j (.int .u8 x) (by simp [B8, hx])
    rwa [add_lit] at this

theorem Sl.kept {w w' : World} {v : Value} {bs : List Int} {S : Nat → Prop} (h : Sl w v bs) (hk : Kept S w w') (hn : ∀ k, v.ownBlock = some k → ¬ S k) : Sl w' v bs := by
  obtain ⟨ao, cap, rfl, hc, hx⟩ := h
  refine ⟨ao, cap, rfl, hc, fun hne => ?_⟩
  obtain ⟨b, off, rfl, hj⟩ := hx hne
  exact ⟨b, off, rfl, fun j x e => hk.cell (hj j x e) (hn b rfl)⟩

theorem Sl.below {w w' : World} {v : Value} {bs : List Int} (h : Sl w v bs) (hk : Below w.heap.size w w') : Sl w' v bs :=
  h.kept (Kept.ofBelow hk) (fun _ _ h => h)

/-- A slice of its own, whole in block g. -/
def Own (w : World) (g : Nat) (bs : List Int) : Prop := w.heap[g]? = some (.cells (B8 bs).toArray 5 (0, 0))

theorem Own.owns {w : World} {g : Nat} {bs : List Int} {B : Nat} (h : Own w g bs) (hB : B ≤ g) (hl : bs.length ≤ maxLen) : w.ownsRow B 5 1 (.slice (some ⟨g, 0, none⟩) bs.length bs.length) bs.length (B8 bs) := by
  refine ⟨by simp, .inr ⟨g, bs.length, _, rfl, hB, h, Nat.le_refl _, hl, by simp, ?_⟩⟩
  rw [List.take_of_length_le (by simp)]

theorem madeCells_bytes (n : Nat) : (madeCells (Value.int .u8 0).cells (n * 1)).toList.length = n := by
  simp [madeCells, Value.cells]

set_option maxRecDepth 100000 in
set_option maxHeartbeats 800000 in
theorem clone_any (v : Value) (bs : List Int) (w : World) (h : Sl w v bs) (hl : bs.length ≤ 1000000000) :
    Calls Try.prog 86 #[v] w fun x w' => x = .returned (.slice (some ⟨w.heap.size, 0, none⟩) bs.length bs.length) ∧ Own w' w.heap.size bs ∧ Below w.heap.size w w' := by
  obtain ⟨i0, hi, hz0, hz1, hz2⟩ := info_parts Try.info5
  obtain ⟨ao, cap, rfl, hc, hx⟩ := h
  have hsz : (Try.prog.info? 5).map (·.size) = some 1 := by rw [hi]; simp [hz1]
  have Hx : Hid _ := hx
  clear hx
  go_enter Try.func86, Try.ntmps86
  go_wp2_with (at_make; refine wpList_make_full _ rfl _ _ 40 rfl w.heap.size 5 i0 (.int .u8 0) 1 Try.underlying40 hi hz0 hz1 _ _ _ _ bs.length rfl rfl rfl rfl (by rw [hz2]; omega) (by unfold maxLen; omega) (Nat.le_refl _) ?_)
  intro w1 ho hg
  have hbel : Below w.heap.size w w1 := (Below.refl _ _).grown hg (Nat.le_refl _) (by intro k hk; cases hk)
  have hrow : ∃ cur : List Value, w1.heap[w.heap.size]? = some (.cells cur.toArray 5 (0, 0)) ∧ cur.length = bs.length := by
    rcases ho.2 with ⟨h1, _⟩ | ⟨g, cp, cur, h1, _, h2, _, _, h3, _⟩
    · cases h1
    · simp at h1
      obtain ⟨rfl, rfl⟩ := h1
      exact ⟨cur.toList, by simpa using h2, by simpa using h3⟩
  obtain ⟨cur, hcur, hcl⟩ := hrow
  have Hl : Hid _ := hcl
  clear ho hg hcl
  go_wp2_with (refine wpList_copy_splice (by rfl) (.tmp 7) (.tmp 8) 40 40 rfl 5 Try.underlying40 hsz _ _ _ _ _ _ rfl rfl w.heap.size 0 cur 5 hcur (B8 bs) (by simp) ?hpos (by rw [Hl.out]; simp) (by intro u hu; obtain ⟨_, _, rfl⟩ := List.mem_map.1 hu; rfl) w.heap.size w hbel (Nat.le_refl _) ?_)
  case hpos =>
    intro hp
    have hne : bs ≠ [] := by intro e; subst e; simp at hp
    obtain ⟨b, off, rfl, hj⟩ := Hx.out hne
    refine ⟨_, rfl, ?_⟩
    intro j u hu
    rw [add_lit]
    have := hj j u hu
    exact (hbel.cell (World.block_lt_of_cell? _ _ this)).trans this
  intro w2 hg2 hb2
  go_wp2
  go_ret
  refine ⟨rfl, ?_, hb2⟩
  have := hg2.out
  unfold Own
  rw [this]
  congr 3
  have := Hl.out
  simp [splice]
  omega

end Go.Proofs.Ytiammlngbejhkaa

namespace Go.Proofs.Ytiammlngbejhkaa
open Go.RowKit

/-- A store of an error into a Writer. -/
theorem wr_err {B p : Nat} {g : Option Nat} {bs : List Int} {e e2 : Int} {w : World} (h : Wr B w p g bs e) : WrStep B p g w (w.setCell ⟨p, 1, none⟩ (.int .i64 e2)) bs e2 := by
  have hne := h.ne
  obtain ⟨v, h1, rfl, h3⟩ := h
  have hk : Kept (fun k => k = p) w (w.setCell ⟨p, 1, none⟩ (.int .i64 e2)) := Kept.setCell (p := ⟨p, 1, none⟩) (Kept.refl (fun k => k = p) w) (fun _ => rfl) _
  exact ⟨v.ownBlock, ⟨v, heap_setCell_same1 h1, rfl, ownsRow_kept h3 hk (fun k hj e => hne (by rw [← e]; exact hj))⟩, .inl rfl, hk.mono (fun _ _ h => .inl h)⟩

/-- What a call leaves of (bytes, error). -/
def wfixZ (s : List Int × Int) (v n : Int) : List Int × Int := if s.2 = 0 then (if n < 0 ∨ 8 < n then (s.1, 1) else (s.1 ++ fixedB n.toNat v, 0)) else s
def wnumZ (s : List Int × Int) (v : Int) : List Int × Int := if s.2 = 0 then (if v < 0 then (s.1, 15) else (s.1 ++ rowF 10 v, 0)) else s
def wintZ (s : List Int × Int) (v : Int) : List Int × Int := if s.2 = 0 then (s.1 ++ rowF 10 (foldZ v), 0) else s
def wtextZ (s : List Int × Int) (t : List Int) : List Int × Int := if s.2 = 0 then (s.1 ++ rowF 10 t.length ++ t, 0) else s

set_option maxRecDepth 100000 in
set_option maxHeartbeats 800000 in
theorem wfixed_any (B p : Nat) (g : Option Nat) (bs : List Int) (e : Int) (w : World) (v : Int) (n : Int) (h : Wr B w p g bs e) (hB : B ≤ w.heap.size) (hu0 : 0 ≤ v) (hu1 : v < 18446744073709551616) (hl : bs.length ≤ 1000000000) :
    Calls Try.prog 82 #[.pointer (some ⟨p, 0, none⟩), .int .u64 v, .int .i64 n] w fun x w' => x = .returned (.tuple #[]) ∧ WrStep B p g w w' (wfixZ (bs, e) v n).1 (wfixZ (bs, e) v n).2 := by
  by_cases he : e = 0
  · subst he
    by_cases hn : n < 0 ∨ 8 < n
    · have hr : wfixZ (bs, 0) v n = (bs, 1) := by unfold wfixZ; rw [if_pos rfl, if_pos hn]
      rw [hr]
      have hh := h
      obtain ⟨v0, hv1, hv2, hv3⟩ := hh
      obtain ⟨c0, c1⟩ := cell_of_pair hv1
      have f1 := free_of_block (o := 1) hv1
      clear hv1 hv2 hv3 hr
      rcases hn with hn | hn
      · go_enter Try.func82, Try.ntmps82
        go_wp2_with (go_at_call 83; refine (open_any B p g bs 0 _ h).mono ?_; rintro e w' ⟨rfl, hww⟩; subst hww)
        refine bodyPost_ret (results_none Try.results82 _ _ _) rfl ?_
        exact ⟨rfl, wr_err h⟩
      · have hn' : ¬ n < 0 := by omega
        go_enter Try.func82, Try.ntmps82
        go_wp2_with (go_at_call 83; refine (open_any B p g bs 0 _ h).mono ?_; rintro e w' ⟨rfl, hww⟩; subst hww)
        refine bodyPost_ret (results_none Try.results82 _ _ _) rfl ?_
        exact ⟨rfl, wr_err h⟩
    · have hr : wfixZ (bs, 0) v n = (bs ++ fixedB n.toNat v, 0) := by unfold wfixZ; rw [if_pos rfl, if_neg hn]
      rw [hr]
      obtain ⟨k, rfl⟩ := Int.eq_ofNat_of_zero_le (show 0 ≤ n by omega)
      exact wfixed_ok B p g bs w v k h hB hu0 hu1 (by omega) hl
  · have hr : wfixZ (bs, e) v n = (bs, e) := by unfold wfixZ; rw [if_neg he]
    rw [hr]
    have he' : (e == 0) = false := by simpa using he
    clear hr
    go_enter Try.func82, Try.ntmps82
    go_wp2_with (go_at_call 83; refine (open_any B p g bs e _ h).mono ?_; rintro e w' ⟨rfl, hww⟩; subst hww)
    refine bodyPost_ret (results_none Try.results82 _ _ _) rfl ?_
    exact ⟨rfl, WrStep.refl h⟩

set_option maxRecDepth 100000 in
set_option maxHeartbeats 800000 in
theorem wbyte_any (B p : Nat) (g : Option Nat) (bs : List Int) (e : Int) (w : World) (v : Int) (h : Wr B w p g bs e) (hB : B ≤ w.heap.size) (hu0 : 0 ≤ v) (hu1 : v < 256) (hl : bs.length ≤ 1000000000) :
    Calls Try.prog 51 #[.pointer (some ⟨p, 0, none⟩), .int .u8 v] w fun x w' => x = .returned (.tuple #[]) ∧ WrStep B p g w w' (wfixZ (bs, e) v 1).1 (wfixZ (bs, e) v 1).2 := by
  go_enter Try.func51, Try.ntmps51
  go_wp2_with (go_at_call 82; refine (wfixed_any B p g bs e _ v 1 h hB hu0 (by omega) hl).mono ?_; rintro x w' ⟨rfl, hw1⟩)
  go_end0
  exact ⟨rfl, by assumption⟩

theorem foldZ_bd (v : Int) (h0 : -9223372036854775808 ≤ v) (h1 : v < 9223372036854775808) : 0 ≤ foldZ v ∧ foldZ v < 18446744073709551616 := by
  unfold foldZ; split <;> omega

set_option maxRecDepth 100000 in
set_option maxHeartbeats 800000 in
theorem wint_any (B p : Nat) (g : Option Nat) (bs : List Int) (e : Int) (w : World) (v : Int) (h : Wr B w p g bs e) (hB : B ≤ w.heap.size) (hu0 : -9223372036854775808 ≤ v) (hu1 : v < 9223372036854775808) (hl : bs.length ≤ 1000000000) :
    Calls Try.prog 52 #[.pointer (some ⟨p, 0, none⟩), .int .i64 v] w fun x w' => x = .returned (.tuple #[]) ∧ WrStep B p g w w' (wintZ (bs, e) v).1 (wintZ (bs, e) v).2 := by
  by_cases he : e = 0
  · subst he
    have hr : wintZ (bs, 0) v = (bs ++ rowF 10 (foldZ v), 0) := by unfold wintZ; rw [if_pos rfl]
    rw [hr]
    obtain ⟨hf0, hf1⟩ := foldZ_bd v hu0 hu1
    clear hr
    go_enter Try.func52, Try.ntmps52
    go_wp2_with (first | (go_at_call 83; refine (open_any B p g bs 0 _ h).mono ?_; rintro e w' ⟨rfl, hww⟩; subst hww) | (go_at_call 85; refine (fold_any v _ hu0 hu1).mono ?_; rintro e w' ⟨rfl, hww⟩; subst hww) | (go_at_call 84; refine (wrow_any B p g bs 0 _ (foldZ v) h hB hf0 hf1 hl).mono ?_; rintro e w' ⟨rfl, hw1⟩))
    go_end0
    exact ⟨rfl, by assumption⟩
  · have hr : wintZ (bs, e) v = (bs, e) := by unfold wintZ; rw [if_neg he]
    rw [hr]
    have he' : (e == 0) = false := by simpa using he
    clear hr
    go_enter Try.func52, Try.ntmps52
    go_wp2_with (go_at_call 83; refine (open_any B p g bs e _ h).mono ?_; rintro e w' ⟨rfl, hww⟩; subst hww)
    refine bodyPost_ret (results_none Try.results52 _ _ _) rfl ?_
    exact ⟨rfl, WrStep.refl h⟩

set_option maxRecDepth 100000 in
set_option maxHeartbeats 800000 in
theorem wdata_any (B p : Nat) (g : Option Nat) (bs : List Int) (e : Int) (w : World) (h : Wr B w p g bs e) (hl : bs.length ≤ 1000000000) :
    Calls Try.prog 54 #[.pointer (some ⟨p, 0, none⟩)] w fun x w' => x = .returned (.slice (some ⟨w.heap.size, 0, none⟩) bs.length bs.length) ∧ Own w' w.heap.size bs ∧ Below w.heap.size w w' := by
  obtain ⟨v, h1, _, h3⟩ := h
  obtain ⟨c0, c1⟩ := cell_of_pair h1
  have hs := sl_of_owns h3
  clear h1 h3
  go_enter Try.func54, Try.ntmps54
  go_wp2_with (go_at_call 86; refine (clone_any v bs _ hs hl).mono ?_; rintro x w' ⟨rfl, hw1, hw2⟩)
  go_ret
  exact ⟨rfl, by assumption, by assumption⟩

end Go.Proofs.Ytiammlngbejhkaa

namespace Go.Proofs.Ytiammlngbejhkaa
open Go.RowKit Go.Lib

/-- A text's bytes. -/
def strBs (s : ByteArray) : List Int := s.data.toList.map fun b => (b.toNat : Int)
theorem strBs_len (s : ByteArray) : (strBs s).length = s.size := by
  unfold strBs; rw [List.length_map, Array.length_toList]; rfl
theorem strCells_B8 (s : ByteArray) : strCells s = B8 (strBs s) := by
  simp [strCells, strBs, B8, List.map_map, Function.comp_def]

/-- Where the bytes of a text, appended to a row, come to lie. -/
theorem append_str_at {P : Program} (w : World) (B : Nat) (t u ty e : TypeId) (i : TypeInfo) (ht : P.underlying t = some (.slice e)) (hu : P.underlying u = some .string) (hi : P.info? e = some i) (hz : i.zero = some (.int .u8 0))
    (hsize : i.size = 1) (hby : i.bytes = 1) (v : Value) (n : Nat) (xs : List Value) (hn : 0 < n) (hown : w.ownsRow B e 1 v n xs) (s : ByteArray)
    (h63 : n + s.size ≤ maxLen) (hbytes : n + s.size ≤ 140737488355328) (hbase : B ≤ w.heap.size) :
    ∃ g cap w', (Builtin.append_ #[t, u] ty #[v, .string s]).run P w = .ok (.slice (some ⟨g, 0, none⟩) (n + s.size) cap) w' ∧ w'.ownsRow B e 1 (.slice (some ⟨g, 0, none⟩) (n + s.size) cap) (n + s.size) (xs ++ strCells s) ∧
      w.grownBy w' v.ownBlock ∧ (v.ownBlock = some g ∨ g = w.heap.size) := by
  obtain ⟨v', w', hr, h2, h3, _⟩ := run_append_own_string (P := P) w B t u ty e i ht hu hi hz hsize hby v n xs hown s h63 hbytes hbase
  have hxl : xs.length = n := by simpa using hown.1
  rcases hown.2 with ⟨_, h0⟩ | ⟨g, cap, cur, rfl, _, hg, _, _, hcs, _⟩
  · omega
  · by_cases hroom : n + s.size ≤ cap
    · have hr2 := run_append_room_string (P := P) w t u ty e i ht hu hi hsize g n cap cur hg s hroom (by omega)
      have hv := hr
      rw [hr2] at hv
      injection hv with hv1 hv2
      subst hv1
      exact ⟨g, cap, w', hr, h2, h3, .inl rfl⟩
    · have holds : ∀ j u, xs[j]? = some u → w.cell? ((⟨g, 0, none⟩ : Addr).add j) = some u := hown.cells (g := g) rfl
      have hr2 := run_append_grow_string (P := P) w t u ty e i (.int .u8 0) ht hu hi hz ⟨g, 0, none⟩ n cap xs (by rw [hsize]; omega) holds s (by omega) (by simp only [maxLen] at h63; omega) (by rw [hby]; exact growslice_fits (by omega) (by omega))
      have hv := hr
      rw [hr2] at hv
      injection hv with hv1 hv2
      subst hv1
      exact ⟨_, _, w', hr, h2, h3, .inr rfl⟩

theorem wpList_append_str_at {P : Program} (w : World) {ops : Array Oper} {rest : List Oper} {o : Oper} {a : Act} {Q : Exit → Act → World → Prop} (hgd : o.guard = none) (sl x : Operand) (t u : TypeId)
    (ho : o.op = .call { callee := .builtin .append, args := #[sl, x], argTypes := #[t, u] })
    (B : Nat) (e : TypeId) (i : TypeInfo) (ht : P.underlying t = some (.slice e)) (hu : P.underlying u = some .string) (hi : P.info? e = some i) (hz : i.zero = some (.int .u8 0))
    (hsize : i.size = 1) (hby : i.bytes = 1) (v : Value) (n : Nat) (xs : List Value) (hn : 0 < n) (hs : a.eval sl = v) (hown : w.ownsRow B e 1 v n xs) (s : ByteArray) (hx : a.eval x = .string s)
    (h63 : n + s.size ≤ maxLen) (hbytes : n + s.size ≤ 140737488355328) (hbase : B ≤ w.heap.size)
    (h : ∀ g cap w', w'.ownsRow B e 1 (.slice (some ⟨g, 0, none⟩) (n + s.size) cap) (n + s.size) (xs ++ strCells s) → w.grownBy w' v.ownBlock → (v.ownBlock = some g ∨ g = w.heap.size) → wpList P ops Q rest (a.put o.dst (.slice (some ⟨g, 0, none⟩) (n + s.size) cap)) w') : wpList P ops Q (o :: rest) a w := by
  refine wpList_plain hgd fun K hK => ?_
  obtain ⟨g, cap, w', hr, h2, h3, h4⟩ := append_str_at (P := P) w B t u o.type e i ht hu hi hz hsize hby v n xs hn hown s h63 hbytes hbase
  unfold Oper.wp execOp
  simp only [ho, resolve, invoke, builtin, Sem.run_bind, Sem.run_pure, Result.andThen_ok, List.map_toArray, List.map_cons, List.map_nil, hs, hx, hr]
  exact hK _ _ (h g cap w' h2 h3 h4)

theorem rowF_pos (f : Nat) (u : Int) : 0 < (rowF f u).length := by
  cases f with
  | zero => simp [rowF]
  | succ f => unfold rowF; split <;> simp
theorem rowF_le (f : Nat) (u : Int) : (rowF f u).length ≤ f + 1 := by
  induction f generalizing u with
  | zero => simp [rowF]
  | succ f ih => unfold rowF; split
                 · have := ih (u / 128); simp; omega
                 · simp

/-- The Writer's block behind an append without a new block ahead. -/
theorem push_block0 {B : Nat} {w w1 : World} {p : Nat} {v : Value} {e : Int} {bs : List Int} (h1 : w.heap[p]? = some (.cells #[v, .int .i64 e] 79 (0, 0))) (hw : Wr B w p v.ownBlock bs e)
    (hgrow : w.grownBy w1 v.ownBlock) : w1.heap[p]? = some (.cells #[v, .int .i64 e] 79 (0, 0)) := by
  have hp := (Array.getElem?_eq_some_iff.1 h1).1
  rw [hgrow.block p hp (fun h => hw.ne h.symm)]
  exact h1

theorem push_step0 {B : Nat} {w w1 : World} {p : Nat} {v : Value} {e : Int} {bs ns : List Int} (h1 : w.heap[p]? = some (.cells #[v, .int .i64 e] 79 (0, 0))) (hw : Wr B w p v.ownBlock bs e)
    (hgrow : w.grownBy w1 v.ownBlock) {g n cap : Nat} (hown : w1.ownsRow B 5 1 (.slice (some ⟨g, 0, none⟩) n cap) n (B8 bs ++ B8 ns)) (hat : v.ownBlock = some g ∨ g = w.heap.size) :
    WrStep B p v.ownBlock w (w1.setCell ⟨p, 0, none⟩ (.slice (some ⟨g, 0, none⟩) n cap)) (bs ++ ns) e := by
  have hp := (Array.getElem?_eq_some_iff.1 h1).1
  have hb := push_block0 h1 hw hgrow
  have hne : g ≠ p := by
    rcases hat with h | h
    · intro e; subst e; exact hw.ne h
    · omega
  have hn : n = (bs ++ ns).length := by
    have := hown.1
    simp at this
    simp
    omega
  refine ⟨some g, ⟨_, heap_setCell_same hb, rfl, ?_⟩, ?_, ?_⟩
  · rw [← hn]
    have h2 : (w1.setCell ⟨p, 0, none⟩ (.slice (some ⟨g, 0, none⟩) n cap)).ownsRow B 5 1 (.slice (some ⟨g, 0, none⟩) n cap) n (B8 bs ++ B8 ns) :=
      ownsRow_kept hown (S := fun k => k = p) ⟨rfl, rfl, rfl, by simp [World.setCell], fun k _ hn => Below.heap_setCell _ _ _ _ hn⟩ (by intro k hk; simp [Value.ownBlock] at hk; omega)
    simpa using h2
  · rcases hat with h | h
    · exact .inl h.symm
    · exact .inr ⟨g, by omega, rfl⟩
  · refine Kept.setCell (Kept.grown (Kept.refl _ w) hgrow ?_) ?_ _
    · intro k _ hk; exact .inr hk
    · intro _; exact .inl rfl

set_option maxRecDepth 100000 in
set_option maxHeartbeats 800000 in
theorem wtext_any (B p : Nat) (g : Option Nat) (bs : List Int) (e : Int) (w : World) (s : ByteArray) (h : Wr B w p g bs e) (hB : B ≤ w.heap.size) (hs : s.size ≤ 1000000000) (hl : bs.length ≤ 1000000000) :
    Calls Try.prog 53 #[.pointer (some ⟨p, 0, none⟩), .string s] w fun x w' => x = .returned (.tuple #[]) ∧ WrStep B p g w w' (wtextZ (bs, e) (strBs s)).1 (wtextZ (bs, e) (strBs s)).2 := by
  by_cases he : e = 0
  · subst he
    obtain ⟨i0, hi, hz0, hz1, hz2⟩ := info_parts Try.info5
    have hr : wtextZ (bs, 0) (strBs s) = (bs ++ rowF 10 (s.size : Int) ++ strBs s, 0) := by unfold wtextZ; rw [if_pos rfl, strBs_len]
    rw [hr]
    clear hr
    have hl1 := rowF_pos 10 (s.size : Int)
    have hl2 := rowF_le 10 (s.size : Int)
    obtain ⟨R, hR⟩ : ∃ R, R = bs ++ rowF 10 (s.size : Int) := ⟨_, rfl⟩
    have hRl : R.length ≤ bs.length + 11 ∧ 0 < R.length := by rw [hR]; simp; omega
    rw [← hR]
    have HR : Hid _ := hR
    clear hR
    go_enter Try.func53, Try.ntmps53
    go_wp2_with (first | (go_at_call 83; refine (open_any B p g bs 0 _ h).mono ?_; rintro e w' ⟨rfl, hww⟩; subst hww) | fail)
    refine (wrow_any B p g bs 0 _ (s.size : Int) h hB (by omega) (by omega) hl).mono ?_
    rintro x w1 ⟨rfl, g1, hw1, hg1, hk1⟩
    rw [← HR.out] at hw1
    have hw1o := hw1
    obtain ⟨v, hv1, hv2, hv3⟩ := hw1o
    subst hv2
    obtain ⟨c0, c1⟩ := cell_of_pair hv1
    have hsz := hk1.size
    have Hw : Hid _ := hw1
    have Hg : Hid _ := hg1
    have Hv : Hid _ := hv1
    clear hw1 hg1 h hl1 hl2 hv1
    go_wp2_with (at_builtin; refine wpList_append_str_at _ rfl _ _ 40 9 rfl B 5 i0 Try.underlying40 Try.underlying9 hi hz0 hz1 hz2 v R.length (B8 R) (by omega) rfl hv3 s rfl (by unfold maxLen; omega) (by omega) (by omega) ?_)
    intro g2 cap w2 hown hgrow hat
    have hb1 := push_block0 Hv.out Hw.out hgrow
    rw [strCells_B8] at hown
    have P := push_step0 Hv.out Hw.out hgrow hown hat
    obtain ⟨d0, d1⟩ := cell_of_pair hb1
    have d2 := free_of_block (o := 0) hb1
    clear hb1 hown hgrow hat c0 c1
    go_wp2
    go_end0
    obtain ⟨ga, qa, qb, qc⟩ := P
    exact ⟨rfl, wr_trans Hg.out hk1 qa qb qc⟩
  · have hr : wtextZ (bs, e) (strBs s) = (bs, e) := by unfold wtextZ; rw [if_neg he]
    rw [hr]
    have he' : (e == 0) = false := by simpa using he
    clear hr
    go_enter Try.func53, Try.ntmps53
    go_wp2_with (go_at_call 83; refine (open_any B p g bs e _ h).mono ?_; rintro e w' ⟨rfl, hww⟩; subst hww)
    refine bodyPost_ret (results_none Try.results53 _ _ _) rfl ?_
    exact ⟨rfl, WrStep.refl h⟩

end Go.Proofs.Ytiammlngbejhkaa

namespace Go.Proofs.Ytiammlngbejhkaa
open Go.RowKit Go.Lib

/-- Behind a laying of ys. -/
def LayPost (B : Nat) (xs ys : List Int) (w : World) (e : Ending) (w' : World) : Prop := ∃ v', e = .returned v' ∧ w'.ownsRow B 5 1 v' (xs ++ ys).length (B8 (xs ++ ys)) ∧ Below B w w'

theorem below_grown {B : Nat} {w w1 w2 : World} {v : Value} {n : Nat} {xs : List Value} (h : Below B w w1) (hB : B ≤ w.heap.size) (ho : w1.ownsRow B 5 1 v n xs) (hg : w1.grownBy w2 v.ownBlock) : Below B w w2 := by
  refine h.trans ((Below.refl B w1).grown hg (Nat.le_trans hB h.size) ?_)
  intro k hk
  exact (ho.lt k hk).1

theorem lay_post {B : Nat} {w w1 : World} {v v' : Value} {xs : List Int} {s : ByteArray} (hB : B ≤ w.heap.size) (ho : w.ownsRow B 5 1 v xs.length (B8 xs)) (hown : w1.ownsRow B 5 1 v' (xs.length + s.size) (B8 xs ++ strCells s)) (hg : w.grownBy w1 v.ownBlock) :
    w1.ownsRow B 5 1 v' (xs ++ strBs s).length (B8 (xs ++ strBs s)) ∧ Below B w w1 := by
  refine ⟨?_, below_grown (Below.refl B w) hB ho hg⟩
  rw [strCells_B8] at hown
  simpa [strBs_len] using hown

set_option maxRecDepth 100000 in
set_option maxHeartbeats 800000 in
theorem tlay_any (B : Nat) (v : Value) (xs : List Int) (s : ByteArray) (w : World) (ho : w.ownsRow B 5 1 v xs.length (B8 xs)) (hB : B ≤ w.heap.size) (hl : xs.length + s.size ≤ 1000000000) :
    Calls Try.prog 133 #[.string s, v] w (LayPost B xs (strBs s) w) := by
  obtain ⟨i0, hi, hz0, hz1, hz2⟩ := info_parts Try.info5
  have HO := hid ho
  clear ho
  unfold LayPost
  go_enter Try.func133, Try.ntmps133
  go_wp2_with (at_builtin; go_loud (
    refine wpList_append_own_string _ rfl _ _ 40 62 rfl B 5 i0 Try.underlying40 Try.underlying62 hi hz0 hz1 hz2 _ xs.length (B8 xs) rfl HO.out s rfl (by unfold maxLen; omega) (by omega) hB ?_
    intro v' w1 hown hgrow _
    have H1 := hid (lay_post hB HO.out hown hgrow)
    clear hown hgrow))
  go_ret
  exact ⟨_, rfl, H1.out.1, H1.out.2⟩

end Go.Proofs.Ytiammlngbejhkaa

namespace Go.Proofs.Ytiammlngbejhkaa
open Go.RowKit Go.Lib

/-- The text of seven. -/
abbrev s7 : ByteArray := ⟨#[55]⟩

set_option maxRecDepth 100000 in
set_option maxHeartbeats 800000 in
theorem small7 (w : World) : Calls Try.prog 122 #[.int .i64 7] w fun e w' => e = .returned (.string s7) ∧ w' = w := by
  go_enter Try.func122, Try.ntmps122
  go_wp2
  go_ret
  refine ⟨?_, rfl⟩
  rfl

set_option maxRecDepth 100000 in
set_option maxHeartbeats 800000 in
theorem appendUint7 (B : Nat) (v : Value) (xs : List Int) (w : World) (ho : w.ownsRow B 5 1 v xs.length (B8 xs)) (hB : B ≤ w.heap.size) (hl : xs.length ≤ 100000000) :
    Calls Try.prog 121 #[v, .int .u64 7, .int .i64 10] w (LayPost B xs [55] w) := by
  obtain ⟨i0, hi, hz0, hz1, hz2⟩ := info_parts Try.info5
  have HO := hid ho
  clear ho
  unfold LayPost
  go_enter Try.func121, Try.ntmps121
  go_wp2_with (first
    | (go_at_call 122
       refine (small7 _).mono ?_
       rintro e w1 ⟨rfl, e1⟩
       rw [e1]
       clear e1 w1)
    | (at_builtin; go_loud (
       refine wpList_append_own_string _ rfl _ _ 40 9 rfl B 5 i0 Try.underlying40 Try.underlying9 hi hz0 hz1 hz2 _ xs.length (B8 xs) rfl HO.out s7 rfl (by unfold maxLen; show xs.length + 1 ≤ _; omega) (by show xs.length + 1 ≤ _; omega) hB ?_
       intro v' w1 hown hgrow _
       have H1 := hid (lay_post hB HO.out hown hgrow)
       clear hown hgrow)))
  go_ret
  exact ⟨_, rfl, H1.out.1, H1.out.2⟩

set_option maxRecDepth 100000 in
set_option maxHeartbeats 800000 in
theorem appendInt7 (B : Nat) (v : Value) (xs : List Int) (w : World) (ho : w.ownsRow B 5 1 v xs.length (B8 xs)) (hB : B ≤ w.heap.size) (hl : xs.length ≤ 10000000) :
    Calls Try.prog 120 #[v, .int .i64 (-7), .int .i64 10] w (LayPost B xs [45, 55] w) := by
  obtain ⟨i0, hi, hz0, hz1, hz2⟩ := info_parts Try.info5
  have HO := hid ho
  clear ho
  unfold LayPost
  go_enter Try.func120, Try.ntmps120
  go_wp2_with (first
    | (at_builtin; go_loud (
       refine wpList_append_lies _ rfl _ _ _ rfl B 5 i0 (.int .u8 0) 1 1 Try.underlying40 hi hz0 hz1 hz2 rfl (by omega) _ xs.length (B8 xs) rfl (HO.out.alloc _) ⟨w.heap.size, 0, none⟩ 1 1 [.int .u8 45] rfl rfl (World.news_of_block (cs := #[.int .u8 45]) (t := 5) (fr := (0, 0)) (heap_alloc_new w _)) (by simp [Value.oneCell']) (by omega) (by unfold maxLen; omega) (by omega) (by simp; omega) (w.heap.size + 1) (by simp) ?_
       intro gg cq w1 hown hgrow hat hgl
       have H1 := hid (And.intro hown (below_grown ((Below.refl B w).alloc hB _) hB (HO.out.alloc _) hgrow))
       clear hown hgrow hat hgl))
    | (go_at_call 121
       refine (appendUint7 B _ (xs ++ [45]) w1 (by simpa using H1.out.1) (Nat.le_trans hB H1.out.2.size) (by simp; omega)).mono ?_
       rintro e w2 ⟨v', rfl, ho2, hb2⟩
       have H2 := hid (And.intro ho2 (H1.out.2.trans hb2))
       clear ho2 hb2))
  go_ret
  exact ⟨_, rfl, by simpa using H2.out.1, H2.out.2⟩

set_option maxRecDepth 100000 in
set_option maxHeartbeats 800000 in
theorem ilay7 (B : Nat) (v : Value) (xs : List Int) (w : World) (ho : w.ownsRow B 5 1 v xs.length (B8 xs)) (hB : B ≤ w.heap.size) (hl : xs.length ≤ 10000000) :
    Calls Try.prog 118 #[.int .i64 (-7), v] w (LayPost B xs [45, 55] w) := by
  have h1 : ∀ w : World, w.ownsRow B 5 1 v xs.length (B8 xs) → B ≤ w.heap.size → Calls Try.prog 119 #[v, .int .i64 (-7), .int .i64 10] w (LayPost B xs [45, 55] w) := by
    intro w ho hB
    have HA := hid (appendInt7 B v xs w ho hB hl)
    clear ho
    unfold LayPost at *
    go_enter Try.func119, Try.ntmps119
    go_wp2_with (go_at_call 120; refine HA.out.mono ?_; rintro e w1 ⟨v', rfl, h⟩)
    go_ret
    exact ⟨_, rfl, h⟩
  have HA := hid (h1 w ho hB)
  clear ho h1
  unfold LayPost at *
  go_enter Try.func118, Try.ntmps118
  go_wp2_with (go_at_call 119; refine HA.out.mono ?_; rintro e w1 ⟨v', rfl, h⟩)
  go_ret
  exact ⟨_, rfl, h⟩

end Go.Proofs.Ytiammlngbejhkaa

namespace Go.Proofs.Ytiammlngbejhkaa
open Go.RowKit

theorem Try.elem40 : Try.prog.underlying 40 = some (.slice (Try.prog.elem 40)) := by kernel_rfl
theorem Try.elemIs : Try.prog.elem 40 = 5 := by kernel_rfl
theorem size5 (w : World) : (sizeOf (Try.prog.elem 40)).run Try.prog w = .ok 1 w := by
  obtain ⟨i0, hi, hz0, hz1, hz2⟩ := info_parts Try.info5
  rw [Try.elemIs]
  simp [sizeOf, typeInfo, hi, hz1]

theorem sl_sliced {w : World} {ao : Option Addr} {bs : List Int} {cap : Nat} (hc : bs.length ≤ cap) (hx : bs ≠ [] → ∃ b off, ao = some ⟨b, off, none⟩ ∧ ∀ j x, bs[j]? = some x → w.cell? ⟨b, off + j, none⟩ = some (.int .u8 x))
    (lo hi : Nat) (h1 : lo ≤ hi) (h2 : hi ≤ bs.length) : Sl w (sliced ao lo hi cap 1) ((bs.drop lo).take (hi - lo)) := by
  have hl : ((bs.drop lo).take (hi - lo)).length = hi - lo := by simp; omega
  refine ⟨(if cap = lo then ao else ao.map (·.add (lo * 1))), cap - lo, by rw [hl]; rfl, by rw [hl]; omega, ?_⟩
  intro hne
  have hlt : lo < hi := by
    rcases Nat.lt_or_ge lo hi with h | h
    · exact h
    · exfalso; apply hne; apply List.eq_nil_of_length_eq_zero; rw [hl]; omega
  obtain ⟨b, off, rfl, hj⟩ := hx (by intro e; subst e; simp at h2; omega)
  refine ⟨b, off + lo, ?_, ?_⟩
  · rw [if_neg (by omega)]; simp [add_lit]
  · intro j x hx2
    rw [List.getElem?_take] at hx2
    split at hx2
    · rw [List.getElem?_drop] at hx2
      rw [Nat.add_assoc]
      exact hj (lo + j) x hx2
    · cases hx2

theorem sliced_own (ao : Option Addr) (n cap lo hi c : Nat) : ∀ k, (sliced ao lo hi cap 1).ownBlock = some k → (Value.slice ao n c).ownBlock = some k := by
  intro k hk
  cases ao with
  | none => unfold sliced at hk; split at hk <;> simp [Value.ownBlock] at hk
  | some a =>
    unfold sliced at hk
    split at hk
    · simpa [Value.ownBlock] using hk
    · simp only [Option.map_some, Value.ownBlock] at hk ⊢
      rw [← hk]
      unfold Addr.add
      split <;> rfl

theorem sl_from {w : World} {v : Value} {bs : List Int} (h : Sl w v bs) (lo : Nat) (h1 : lo ≤ bs.length) :
    ∃ rv, (∀ wx : World, (Instr.slice 40 v (some (.int .i64 lo)) none none).run Try.prog wx = .ok rv wx) ∧ Sl w rv (bs.drop lo) ∧ (∀ k, rv.ownBlock = some k → v.ownBlock = some k) := by
  obtain ⟨ao, cap, rfl, hc, hx⟩ := h
  refine ⟨sliced ao lo bs.length cap 1, ?_, ?_, sliced_own ao _ cap lo _ _⟩
  · intro wx
    rw [run_slice_l wx 40 ao bs.length cap Try.elem40 .i64 lo (by omega) (by omega), size5]
    rfl
  · have := sl_sliced hc hx lo bs.length h1 (Nat.le_refl _)
    rwa [List.take_of_length_le (by simp)] at this

theorem sl_part {w : World} {v : Value} {bs : List Int} (h : Sl w v bs) (lo hi : Nat) (h1 : lo ≤ hi) (h2 : hi ≤ bs.length) :
    ∃ rv, (∀ wx : World, (Instr.slice 40 v (some (.int .i64 lo)) (some (.int .i64 hi)) none).run Try.prog wx = .ok rv wx) ∧ Sl w rv ((bs.drop lo).take (hi - lo)) ∧ (∀ k, rv.ownBlock = some k → v.ownBlock = some k) := by
  obtain ⟨ao, cap, rfl, hc, hx⟩ := h
  refine ⟨sliced ao lo hi cap 1, ?_, sl_sliced hc hx lo hi h1 h2, sliced_own ao _ cap lo _ _⟩
  intro wx
  rw [run_slice_lh wx 40 ao bs.length cap Try.elem40 .i64 .i64 lo hi (by omega) (by omega) (by omega), size5]
  rfl

theorem sl_to {w : World} {v : Value} {bs : List Int} (h : Sl w v bs) (hi : Nat) (h2 : hi ≤ bs.length) :
    ∃ rv, (∀ wx : World, (Instr.slice 40 v none (some (.int .i64 hi)) none).run Try.prog wx = .ok rv wx) ∧ Sl w rv (bs.take hi) ∧ (∀ k, rv.ownBlock = some k → v.ownBlock = some k) := by
  obtain ⟨ao, cap, rfl, hc, hx⟩ := h
  refine ⟨sliced ao 0 hi cap 1, ?_, ?_, sliced_own ao _ cap 0 _ _⟩
  · intro wx
    rw [run_slice_h wx 40 ao bs.length cap Try.elem40 .i64 hi (by omega) (by omega), size5]
    rfl
  · have := sl_sliced hc hx 0 hi (Nat.zero_le _) h2
    simpa using this

/-- A text of these bytes. -/
def mkStr (l : List Int) : ByteArray := ⟨(l.map fun x => UInt8.ofNat x.toNat).toArray⟩

theorem sl_string {w : World} {v : Value} {bs : List Int} (h : Sl w v bs) : (convert 40 9 v).run Try.prog w = .ok (.string (mkStr bs)) w := by
  obtain ⟨ao, cap, rfl, hc, hx⟩ := h
  rw [run_convert_bytes_string w 40 9 5 ao _ cap Try.underlying40 Try.underlying5 Try.underlying9]
  by_cases hne : bs = []
  · subst hne
    cases ao with
    | none => rfl
    | some a =>
      have := run_bytesToString (P := Try.prog) w a 0 cap [] (by
        have := run_loadCells_list (P := Try.prog) w a [] (by intro j v h; cases h)
        simpa using this)
      exact this
  · obtain ⟨b, off, rfl, hj⟩ := hx hne
    have h1 := run_loadCells_list (P := Try.prog) w ⟨b, off, none⟩ (B8 bs) (by
      intro j v hv
      rw [List.getElem?_map, Option.map_eq_some_iff] at hv
      obtain ⟨x, hx1, rfl⟩ := hv
      rw [add_lit]
      exact hj j x hx1)
    simp only [List.length_map] at h1
    rw [run_bytesToString w ⟨b, off, none⟩ _ cap bs h1, foldl_push_bytes]
    simp [mkStr]

theorem Sl.drewN {w : World} {v : Value} {bs : List Int} (h : Sl w v bs) (n : Nat) : Sl (w.drewN n) v bs := by
  obtain ⟨ao, cap, rfl, hc, hx⟩ := h
  refine ⟨ao, cap, rfl, hc, fun hne => ?_⟩
  obtain ⟨b, off, rfl, hj⟩ := hx hne
  exact ⟨b, off, rfl, fun j x e => by simpa using hj j x e⟩

end Go.Proofs.Ytiammlngbejhkaa

namespace Go.Proofs.Ytiammlngbejhkaa
open Go.RowKit Go.Lib

/-- A thing of function F lays ys. -/
def Lays' (F : Nat) (x : Value) (ys : List Int) (w0 : World) : Prop := ∀ (B : Nat) (v : Value) (xs : List Int) (w : World), w.ownsRow B 5 1 v xs.length (B8 xs) → B ≤ w.heap.size → Below w0.heap.size w0 w → xs.length ≤ 1000000 → Calls Try.prog F #[x, v] w (LayPost B xs ys w)

/-- What Join answers of two texts. -/
def joinV (zs : List Int) : Value := if zs.length ≤ 256 then .tuple #[vl 2 0 (mkStr zs), .int .i64 0] else .tuple #[vl 0 0 emp, .int .i64 4]

theorem own_shape {w : World} {B : Nat} {e : TypeId} {size : Nat} {v : Value} {n : Nat} {xs : List Value} (h : w.ownsRow B e size v n xs) : ∃ ao c, v = .slice ao n c := by
  rcases h.2 with ⟨e1, e2⟩ | ⟨g, cap, cur, e1, _⟩
  · exact ⟨none, 0, by rw [e1, e2]⟩
  · exact ⟨_, _, e1⟩

theorem sl_text {w : World} {v : Value} {bs : List Int} (h : Sl w v bs) : (convert 40 62 v).run Try.prog w = .ok (.string (mkStr bs)) w := by
  obtain ⟨ao, cap, rfl, hc, hx⟩ := h
  rw [run_convert_bytes_string w 40 62 5 ao _ cap Try.underlying40 Try.underlying5 Try.underlying62]
  by_cases hne : bs = []
  · subst hne
    cases ao with
    | none => rfl
    | some a =>
      have := run_bytesToString (P := Try.prog) w a 0 cap [] (by
        have := run_loadCells_list (P := Try.prog) w a [] (by intro j v h; cases h)
        simpa using this)
      exact this
  · obtain ⟨b, off, rfl, hj⟩ := hx hne
    have h1 := run_loadCells_list (P := Try.prog) w ⟨b, off, none⟩ (B8 bs) (by
      intro j v hv
      rw [List.getElem?_map, Option.map_eq_some_iff] at hv
      obtain ⟨x, hx1, rfl⟩ := hv
      rw [add_lit]
      exact hj j x hx1)
    simp only [List.length_map] at h1
    rw [run_bytesToString w ⟨b, off, none⟩ _ cap bs h1, foldl_push_bytes]
    simp [mkStr]

theorem owns_nil (w : World) (B : Nat) : w.ownsRow B 5 1 (.slice none 0 0) ([] : List Int).length (B8 []) := ⟨rfl, .inl ⟨rfl, rfl⟩⟩

theorem nilAhead60 (sv : Value) (w : World) : (nilAhead 267 60 sv "treadle/datum.lay").run Try.prog w = .ok (some false) w := by kernel_rfl
theorem method60 (sv : Value) (w : World) : (method 267 60 sv "treadle/datum.lay").run Try.prog w = .ok (118, sv) w := by kernel_rfl
theorem nilAhead62 (sv : Value) (w : World) : (nilAhead 267 62 sv "treadle/datum.lay").run Try.prog w = .ok (some false) w := by kernel_rfl
theorem method62 (sv : Value) (w : World) : (method 267 62 sv "treadle/datum.lay").run Try.prog w = .ok (133, sv) w := by kernel_rfl

/-- Behind both layings. -/
theorem join_behind {w w2 w3 w4 : World} {r : Nat} {a b c : Value} {zs : List Int} {v : Value} (h2 : w2.heap[r]? = some (.cells #[a, b, c] 23 (0, 0)) ∧ Below w.heap.size w w2) (h3 : Below w2.heap.size w2 w3) (h4 : Below w2.heap.size w3 w4)
    (ho : w4.ownsRow w2.heap.size 5 1 v zs.length (B8 zs)) : w4.heap[r]? = some (.cells #[a, b, c] 23 (0, 0)) ∧ Below w.heap.size w w4 ∧ Sl w4 v zs := by
  have h5 := h3.trans h4
  exact ⟨blk_of h5 h2.1 (lt_of h2.1), below_on h2.2 h5, sl_of_owns ho⟩

set_option maxRecDepth 100000 in
set_option maxHeartbeats 1600000 in
theorem join_6260 (k i : Int) (s : ByteArray) (l j : Int) (t : ByteArray) (w : World) (va vb : Value) (ha : chd k i s = .iface 62 va) (hb : chd l j t = .iface 60 vb) (ya yb : List Int) (hla : Lays' 133 va ya w) (hlb : Lays' 118 vb yb w) (hy : ya.length ≤ 1000) (_hy2 : yb.length ≤ 1000) :
    Calls Try.prog 24 #[vl k i s, vl l j t] w fun e w' => e = .returned (joinV (ya ++ yb)) ∧ Below w.heap.size w w' := by
  obtain ⟨hA, hB, hC, h0⟩ := three w (vo k i s) (vo l j t) (vo 0 0 emp)
  have ca := checked_any k i s
  have cb := checked_any l j t
  rw [ha] at ca
  rw [hb] at cb
  have CA := hid ca
  have CB := hid cb
  have LA := hid hla
  have LB := hid hlb
  clear ca cb ha hb hla hlb
  go_enter Try.func24, Try.ntmps24
  go_wp2
  show Code.wp _ _ _ _ (((w.alloc (vo k i s)).alloc (vo l j t)).alloc (vo 0 0 emp))
  obtain ⟨W0, hW0⟩ : ∃ W0, W0 = (((w.alloc (vo k i s)).alloc (vo l j t)).alloc (vo 0 0 emp)) := ⟨_, rfl⟩
  rw [← hW0] at hA hB hC h0 ⊢
  clear hW0
  obtain ⟨a0, a1, a2, -⟩ := vfacts hA
  obtain ⟨b0, b1, b2, -⟩ := vfacts hB
  have HB := hid hB
  have HC := hid hC
  have H0 := hid h0
  clear hA hB hC h0
  go_region_held (fun w' => w'.cell? ⟨w.heap.size, 0, none⟩ = some (.int .i64 k) ∧ w'.cell? ⟨w.heap.size, 1, none⟩ = some (.int .i64 i) ∧ w'.cell? ⟨w.heap.size, 2, none⟩ = some (.string s) ∧ w'.cell? ⟨w.heap.size + 1, 0, none⟩ = some (.int .i64 l) ∧ w'.cell? ⟨w.heap.size + 1, 1, none⟩ = some (.int .i64 j) ∧ w'.cell? ⟨w.heap.size + 1, 2, none⟩ = some (.string t)) (go_keep) (first
    | (go_at_call 47
       (with_reducible show Calls _ _ #[vl k i s] _ _)
       refine (CA.out _).mono ?_
       rintro e w1 ⟨rfl, hb1⟩
       have hb1' : Below W0.heap.size W0 w1 := ⟨hb1.os, hb1.tape, hb1.output, hb1.size, hb1.block⟩
       have a0 := (hb1'.cell (World.block_lt_of_cell? _ _ a0)).trans a0
       have a1 := (hb1'.cell (World.block_lt_of_cell? _ _ a1)).trans a1
       have a2 := (hb1'.cell (World.block_lt_of_cell? _ _ a2)).trans a2
       have b0 := (hb1'.cell (World.block_lt_of_cell? _ _ b0)).trans b0
       have b1 := (hb1'.cell (World.block_lt_of_cell? _ _ b1)).trans b1
       have b2 := (hb1'.cell (World.block_lt_of_cell? _ _ b2)).trans b2
       have H1 := hid (And.intro (blk_of hb1' HC.out (lt_of HC.out)) (below_on H0.out hb1'))
       clear hb1 hb1' CA)
    | (go_at_call 47
       refine (CB.out _).mono ?_
       rintro e w2 ⟨rfl, hb2⟩
       have a0 := (hb2.cell (World.block_lt_of_cell? _ _ a0)).trans a0
       have a1 := (hb2.cell (World.block_lt_of_cell? _ _ a1)).trans a1
       have a2 := (hb2.cell (World.block_lt_of_cell? _ _ a2)).trans a2
       have b0 := (hb2.cell (World.block_lt_of_cell? _ _ b0)).trans b0
       have b1 := (hb2.cell (World.block_lt_of_cell? _ _ b1)).trans b1
       have b2 := (hb2.cell (World.block_lt_of_cell? _ _ b2)).trans b2
       have H2 := hid (And.intro (blk_of hb2 H1.out.1 (lt_of H1.out.1)) (below_on H1.out.2 hb2))
       clear hb2))
  clear a0 a1 a2 b0 b1 b2 HB HC H0
  have hlen : ((ya ++ yb).length : Int) = (ya.length : Int) + yb.length := by simp
  have hmf : ∀ (fn : Fn) (first cap : Array Value) (w : World), (Instr.makeFunc fn first cap).run Try.prog w = .ok (.func fn first cap) w := fun _ _ _ _ => rfl
  have na60 := nilAhead60 vb
  have na62 := nilAhead62 va
  have mt60 := method60 vb
  have mt62 := method62 va
  go_wp2
  go_region_held (fun _ => True) (trivial) (first
    | (go_at_call 133
       go_loud (
       refine (LA.out w2.heap.size (.slice none 0 0) [] w2.drew (owns_nil _ _) (by simp) ⟨H2.out.2.os, H2.out.2.tape, H2.out.2.output, H2.out.2.size, H2.out.2.block⟩ (by simp)).mono ?_
       rintro e w3 h3
       obtain ⟨v3, rfl, ho3, hb3⟩ := h3
       have hb3' : Below w2.heap.size w2 w3 := ⟨hb3.os, hb3.tape, hb3.output, hb3.size, hb3.block⟩
       have H3 := hid (And.intro ho3 hb3')
       clear ho3 hb3 hb3'))
    | (go_at_call 118
       refine (LB.out w2.heap.size v3 ([] ++ ya) w3 H3.out.1 H3.out.2.size (below_on H2.out.2 H3.out.2) (by simp; omega)).mono ?_
       rintro e w4 h4
       obtain ⟨v4, rfl, ho4, hb4⟩ := h4
       obtain ⟨ao, cc, rfl⟩ := own_shape ho4
       have H4 := hid (join_behind H2.out H3.out.2 hb4 ho4)
       clear ho4 hb4))
  all_goals
    have hc := hid (sl_text (show Sl w4 (.slice ao (ya.length + yb.length) cc) (ya ++ yb) by simpa using H4.out.2.2))
    have g4 := hid H4.out.1
    obtain ⟨c0, c1, c2, ff⟩ := vfacts g4.out
    have hB4 := hid H4.out.2.1
    clear H4
    by_cases hlen : ((ya.length : Int) + yb.length) ≤ 256
    · have hj : joinV (ya ++ yb) = .tuple #[vl 2 0 (mkStr (ya ++ yb)), .int .i64 0] := by unfold joinV; rw [if_pos (by simp; omega)]
      have HJ := hid hj
      have hcv := hc.out
      clear hj
      go_wp2_with (
        go_at_call 48
        refine (tvalue_any _ _).mono ?_
        rintro e w5 ⟨rfl, hb5⟩
        have g5 := blk_of hb5 g4.out (lt_of g4.out)
        obtain ⟨c0, c1, c2, ff⟩ := vfacts g5
        have H5 := hid (And.intro g5 (below_on hB4.out hb5))
        clear hb5 g5)
      refine bodyPost_ret (ret_agg2 Try.results24 rfl (set3 H5.out.1 _ _ _)) rfl ?_
      exact ⟨by rw [HJ.out]; rfl, Below.set3 H5.out.2 (by omega) _ _ _⟩
    · have hj : joinV (ya ++ yb) = .tuple #[vl 0 0 emp, .int .i64 4] := by unfold joinV; rw [if_neg (by simp; omega)]
      have HJ := hid hj
      clear hj
      go_wp2
      refine bodyPost_ret (ret_agg2 Try.results24 rfl (set3 g4.out _ _ _)) rfl ?_
      exact ⟨by rw [HJ.out]; rfl, Below.set3 hB4.out (by omega) _ _ _⟩

end Go.Proofs.Ytiammlngbejhkaa
