import Derived.Test.YtamajeagmkjjbaaBase
import Derived.Test.YtamajeagmkjjbaaPure
namespace Go.Proofs.Ytamajeagmkjjbaa
open Go.RowKit

/-- The row of sevens of u, in at most f + 1 bytes. -/
def rowF : Nat → Int → List Int
  | 0, u => [u]
  | f + 1, u => if 127 < u then (u % 128 + 128) :: rowF f (u / 128) else [u]

theorem rowF_more (f : Nat) (u : Int) (h : 127 < u) : rowF (f + 1) u = [u % 128 + 128] ++ rowF f (u / 128) := by
  rw [rowF, if_pos h]; rfl
theorem rowF_last (f : Nat) (u : Int) (h : ¬ 127 < u) : rowF f u = [u] := by
  cases f with
  | zero => rfl
  | succ f => rw [rowF, if_neg h]

theorem pow_step (f : Nat) (u : Int) (h : u < 128 ^ (f + 1 + 1)) : u / 128 < 128 ^ (f + 1) := by
  apply Int.ediv_lt_of_lt_mul (by omega)
  rw [Int.pow_succ] at h
  exact h
theorem pow_zero_no (u : Int) (h : u < 128 ^ (0 + 1)) : ¬ 127 < u := by
  have : (128 : Int) ^ (0 + 1) = 128 := by decide
  omega

/-- What a call on a Writer leaves: the bytes bs, the error e; its block p and its data's block g alone may have turned. -/
def WrStep (B : Nat) (p : Nat) (g : Option Nat) (w w' : World) (bs : List Int) (e : Int) : Prop :=
  ∃ g', Wr B w' p g' bs e ∧ (g' = g ∨ ∃ k, w.heap.size ≤ k ∧ g' = some k) ∧ Kept (fun k => k = p ∨ g = some k) w w'

theorem WrStep.refl {B p : Nat} {g : Option Nat} {w : World} {bs : List Int} {e : Int} (h : Wr B w p g bs e) : WrStep B p g w w bs e := ⟨g, h, .inl rfl, Kept.refl _ _⟩

/-- One step behind another. -/
theorem wr_trans {B p : Nat} {g g' g2 : Option Nat} {w w' w2 : World} {bs : List Int} {e : Int}
    (hg : g' = g ∨ ∃ k, w.heap.size ≤ k ∧ g' = some k) (hk : Kept (fun k => k = p ∨ g = some k) w w')
    (hw : Wr B w2 p g2 bs e) (hg2 : g2 = g' ∨ ∃ k, w'.heap.size ≤ k ∧ g2 = some k) (hk2 : Kept (fun k => k = p ∨ g' = some k) w' w2) :
    WrStep B p g w w2 bs e := by
  refine ⟨g2, hw, ?_, ?_⟩
  · rcases hg2 with rfl | ⟨k, h1, h2⟩
    · exact hg
    · exact .inr ⟨k, by have := hk.size; omega, h2⟩
  · refine hk.trans hk2 ?_
    intro i hi hs
    rcases hs with h | h
    · exact .inl h
    · rcases hg with rfl | ⟨k, h1, h2⟩
      · exact .inr h
      · rw [h2] at h; simp at h; omega

theorem WrStep.trans {B p : Nat} {g : Option Nat} {w w' w2 : World} {bs bs2 : List Int} {e e2 : Int}
    (h : WrStep B p g w w' bs e) (h2 : ∀ g', Wr B w' p g' bs e → WrStep B p g' w' w2 bs2 e2) : WrStep B p g w w2 bs2 e2 := by
  obtain ⟨g', a, b, c⟩ := h
  obtain ⟨g2, a2, b2, c2⟩ := h2 g' a
  exact wr_trans b c a2 b2 c2

set_option maxRecDepth 100000 in
set_option maxHeartbeats 800000 in
theorem wrow_any (B p : Nat) (g : Option Nat) (bs : List Int) (e : Int) (w : World) (u : Int) (h : Wr B w p g bs e) (hB : B ≤ w.heap.size) (hu0 : 0 ≤ u) (hu1 : u < 18446744073709551616) (hl : bs.length ≤ 1000000000) :
    Calls Try.prog 51 #[.pointer (some ⟨p, 0, none⟩), .int .u64 u] w fun x w' => x = .returned (.tuple #[]) ∧ WrStep B p g w w' (bs ++ rowF 10 u) e := by
  obtain ⟨i0, hi, hz0, hz1, hz2⟩ := info_parts Try.info5
  go_enter Try.func51, Try.ntmps51
  go_wp2
  go_loopw [1] (fun t wr => ∃ (f : Nat) (u' : Int) (bs' : List Int) (g' : Option Nat), t = .int .u64 u' ∧ 0 ≤ u' ∧ u' < 18446744073709551616 ∧ Wr B wr p g' bs' e ∧ bs' ++ rowF f u' = bs ++ rowF 10 u ∧ f ≤ 10 ∧ bs'.length + f = bs.length + 10 ∧ Hid (u' < 128 ^ (f + 1)) ∧
      (g' = g ∨ ∃ k, w.heap.size ≤ k ∧ g' = some k) ∧ Kept (fun k => k = p ∨ g = some k) w wr)
    (fun t _ => (intOf t).toNat)
  case atStart => exact ⟨10, u, bs, g, rfl, hu0, hu1, h, rfl, Nat.le_refl _, rfl, (show u < 128 ^ (10 + 1) by omega), .inl rfl, Kept.refl _ _⟩
  case round =>
    obtain ⟨f, u', bs', g', rfl, h0, h1, hw, hb, hf, hlen, hpow, hg, hk⟩ := hrel
    have hwo := hw
    obtain ⟨v, hv1, hv2, hv3⟩ := hwo
    obtain ⟨c0, c1⟩ := cell_of_pair hv1
    have Hb : Hid (bs' ++ rowF f u' = bs ++ rowF 10 u) := hb
    clear hb h
    by_cases hc : 127 < u'
    · have a1 := and127_u64 u' h0 h1
      have a2 : IntKind.u8.wrap (u' % 128) = u' % 128 := by rw [IntKind.wrap_u8]; omega
      have a3 := or128_u8 (u' % 128) (by omega) (by omega)
      go_wp2_with (at_builtin; refine wpList_append_lies _ rfl _ _ _ rfl B 5 i0 (.int .u8 0) 1 1 Try.underlying26 hi hz0 hz1 hz2 rfl (by omega) v bs'.length (B8 bs') rfl (hv3.alloc _) ⟨wr.heap.size, 0, none⟩ 1 1 [.int .u8 (u' % 128 + 128)] rfl rfl (World.news_of_block (cs := #[.int .u8 (u' % 128 + 128)]) (t := 5) (fr := (0, 0)) (heap_alloc_new wr _)) (by simp [Value.oneCell']) (by omega) (by unfold maxLen; omega) (by omega) (by have := hk.size; simp; omega) (wr.heap.size + 1) (by simp) ?_)
      intro g2 cap w1 hown hgrow hat hlt
      subst hv2
      have hb1 := push_block hv1 hw _ hgrow
      have P := push_step (ns := [u' % 128 + 128]) hv1 hw _ hgrow hown hat
      obtain ⟨d0, d1⟩ := cell_of_pair hb1
      have d2 := free_of_block (o := 0) hb1
      clear hb1 hown hgrow hat c0 c1
      go_wp2
      go_roundw
      case rel =>
        cases f with
        | zero => exact absurd hc (pow_zero_no u' hpow)
        | succ f =>
          obtain ⟨gg, q1, q2, q3⟩ := wr_trans hg hk P.1 P.2.1 P.2.2
          refine ⟨f, u' / 128, bs' ++ [u' % 128 + 128], gg, by first | rfl | go_num, by omega, by omega, q1, ?_, by omega, by simp; omega, pow_step f u' hpow, q2, q3⟩
          rw [← Hb.out, rowF_more f u' hc, List.append_assoc]
      case measure => simp [intOf]; omega
    · have a2 : IntKind.u8.wrap u' = u' := by rw [IntKind.wrap_u8]; omega
      go_wp2_with (at_builtin; refine wpList_append_lies _ rfl _ _ _ rfl B 5 i0 (.int .u8 0) 1 1 Try.underlying26 hi hz0 hz1 hz2 rfl (by omega) v bs'.length (B8 bs') rfl (hv3.alloc _) ⟨wr.heap.size, 0, none⟩ 1 1 [.int .u8 u'] rfl rfl (World.news_of_block (cs := #[.int .u8 u']) (t := 5) (fr := (0, 0)) (heap_alloc_new wr _)) (by simp [Value.oneCell']) (by omega) (by unfold maxLen; omega) (by omega) (by have := hk.size; simp; omega) (wr.heap.size + 1) (by simp) ?_)
      intro g2 cap w1 hown hgrow hat hlt
      subst hv2
      have hb1 := push_block hv1 hw _ hgrow
      have P := push_step (ns := [u']) hv1 hw _ hgrow hown hat
      obtain ⟨d0, d1⟩ := cell_of_pair hb1
      have d2 := free_of_block (o := 0) hb1
      clear hb1 hown hgrow hat c0 c1
      go_wp2
      go_end0
      refine ⟨rfl, ?_⟩
      rw [← Hb.out, rowF_last f u' (by omega)]
      exact wr_trans hg hk P.1 P.2.1 P.2.2

end Go.Proofs.Ytamajeagmkjjbaa
