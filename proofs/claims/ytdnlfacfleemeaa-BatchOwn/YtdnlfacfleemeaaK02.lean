import Derived.Test.YtdnlfacfleemeaaK01
import Derived.Deep.AppendSrc
import Derived.Lib.AppendStr
namespace Go.Proofs.Ytdnlfacfleemeaa
open Go.RowKit

theorem ret_int {k : IntKind} {a b : Int} (h : a = b) : Ending.returned (.int k a) = .returned (.int k b) := by rw [h]

set_option maxHeartbeats 400000 in
theorem open_any (B p : Nat) (g : Option Nat) (bs : List Int) (e : Int) (w : World) (h : Wr B w p g bs e) :
    Calls Try.prog 26 #[.pointer (some ⟨p, 0, none⟩)] w fun x w' => x = .returned (.bool (e == 0)) ∧ w' = w := by
  obtain ⟨v, h1, _, _⟩ := h
  obtain ⟨c0, c1⟩ := cell_of_pair h1
  clear h1
  go_enter Try.func26, Try.ntmps26
  go_wp2
  go_ret
  exact ⟨rfl, rfl⟩

set_option maxHeartbeats 400000 in
theorem open_nil (w : World) :
    Calls Try.prog 26 #[.pointer none] w fun x w' => x = .returned (.bool false) ∧ w' = w := by
  go_enter Try.func26, Try.ntmps26
  go_wp2
  go_ret
  exact ⟨rfl, rfl⟩

set_option maxHeartbeats 400000 in
theorem wdata_nil (w : World) :
    Calls Try.prog 19 #[.pointer none] w fun x w' => x = .returned (.slice none 0 0) ∧ w' = w := by
  go_enter Try.func19, Try.ntmps19
  go_wp2
  go_ret
  exact ⟨rfl, rfl⟩

/-- 'fold'. -/
def foldZ (v : Int) : Int := if v < 0 then -2 * v - 1 else 2 * v

set_option maxHeartbeats 400000 in
theorem fold_any (v : Int) (w : World) (h0 : -9223372036854775808 ≤ v) (h1 : v < 9223372036854775808) :
    Calls Try.prog 67 #[.int .i64 v] w fun x w' => x = .returned (.int .u64 (foldZ v)) ∧ w' = w := by
  by_cases hv : v < 0
  · have e1 : IntKind.u64.wrap (IntKind.u64.wrap v * 2) = 2 * v + 18446744073709551616 := by
      rw [IntKind.wrap_u64, IntKind.wrap_u64]; omega
    have e2 := xorMax_u64 (2 * v + 18446744073709551616) (by omega) (by omega)
    have H1 : Hid _ := e1
    have H2 : Hid _ := e2
    clear e1 e2
    go_enter Try.func67, Try.ntmps67
    go_wp2
    all_goals go_ret
    all_goals first
      | (refine ⟨ret_int ?_, rfl⟩; rw [H1.out, H2.out]; unfold foldZ; rw [if_pos hv]; omega)
      | (exfalso; revert ‹IntKind.u64.signed = true›; decide)
  · go_enter Try.func67, Try.ntmps67
    go_wp2
    go_ret
    refine ⟨ret_int ?_, rfl⟩
    unfold foldZ; rw [if_neg (by omega)]; omega

/-- 'unfold'. -/
def unfoldZ (u : Int) : Int := if u % 2 = 0 then u / 2 else -1 - u / 2

set_option maxHeartbeats 400000 in
theorem unfold_any (u : Int) (w : World) (h0 : 0 ≤ u) (h1 : u < 18446744073709551616) :
    Calls Try.prog 87 #[.int .u64 u] w fun x w' => x = .returned (.int .i64 (unfoldZ u)) ∧ w' = w := by
  have a1 := and1_u64 u h0 h1
  by_cases hv : u % 2 = 0
  · go_enter Try.func87, Try.ntmps87
    go_wp2
    go_ret
    refine ⟨ret_int ?_, rfl⟩
    unfold unfoldZ; rw [if_pos hv]
  · have hv' : u % 2 = 1 := by omega
    have H1 : Hid _ := xorMax_i64 (u / 2) (by omega) (by omega)
    have hz : unfoldZ u = -1 - u / 2 := by unfold unfoldZ; rw [if_neg hv]
    have Hz : Hid _ := hz
    clear hv hz
    go_enter Try.func87, Try.ntmps87
    go_wp2
    all_goals go_ret
    all_goals first
      | (refine ⟨ret_int ?_, rfl⟩; rw [H1.out, Hz.out]; done)
      | (exfalso; revert ‹¬ IntKind.i64.signed = true›; decide)

end Go.Proofs.Ytdnlfacfleemeaa

namespace Go.Proofs.Ytdnlfacfleemeaa
open Go.RowKit

def fixedB (n : Nat) (v : Int) : List Int := (List.range n).map fun i => v / 256 ^ i % 256
theorem fixedB_succ (k : Nat) (v : Int) : fixedB (k + 1) v = fixedB k v ++ [v / 256 ^ k % 256] := by
  simp [fixedB, List.range_succ]
theorem fixedB_len (k : Nat) (v : Int) : (fixedB k v).length = k := by simp [fixedB]

theorem shr8 (v : Int) (k : Nat) (hk : k < 8) : Op.shift .shr .u64 v .i64 (8 * (k : Int)) = pure (.int .u64 (v / 256 ^ k)) := by
  rw [shift_shr_any _ _ _ _ (by omega)]
  have e : min (8 * (k : Int)).toNat IntKind.u64.bits = 8 * k := by simp only [IntKind.bits]; omega
  rw [e, Int.pow_mul]
  rfl

theorem div_bd (v : Int) (k : Nat) (h0 : 0 ≤ v) (h1 : v < 18446744073709551616) : 0 ≤ v / 256 ^ k ∧ v / 256 ^ k < 18446744073709551616 := by
  have hp : (0 : Int) < 256 ^ k := Int.pow_pos (by omega)
  refine ⟨Int.ediv_nonneg h0 (by omega), ?_⟩
  have := Int.ediv_le_self (256 ^ k) h0
  omega

theorem grownBy_undrew {x y : World} {r : Option Nat} (h : x.drew.grownBy y r) : x.grownBy y r := ⟨h.os, h.tape, h.output, h.size, h.block⟩

set_option maxRecDepth 100000 in
set_option maxHeartbeats 1600000 in
theorem wfixed_ok (B p : Nat) (g : Option Nat) (bs : List Int) (w : World) (v : Int) (n : Nat) (h : Wr B w p g bs 0) (hB : B ≤ w.heap.size) (_hu0 : 0 ≤ v) (_hu1 : v < 18446744073709551616) (hn : n ≤ 8) (hl : bs.length ≤ 1000000000) :
    Calls Try.prog 39 #[.pointer (some ⟨p, 0, none⟩), .int .u64 v, .int .i64 n] w fun x w' => x = .returned (.tuple #[]) ∧ WrStep B p g w w' (bs ++ fixedB n v) 0 := by
  obtain ⟨i0, hi, hz0, hz1, hz2⟩ := info_parts Try.info5
  go_enter Try.func39, Try.ntmps39
  go_wp2_with (go_at_call 26; refine (open_any B p g bs 0 _ h).mono ?_; rintro e w' ⟨rfl, hww⟩; subst hww)
  go_loopw [6, 20] (fun _ i wr => ∃ (k : Nat) (g' : Option Nat), k ≤ n ∧ i = .int .i64 k ∧ Wr B wr p g' (bs ++ fixedB k v) 0 ∧
      (g' = g ∨ ∃ k, w'.heap.size ≤ k ∧ g' = some k) ∧ Kept (fun k => k = p ∨ g = some k) w' wr)
    (fun _ i _ => n - (intOf i).toNat)
  case atStart => exact ⟨0, g, Nat.zero_le _, rfl, by simpa [fixedB] using h, .inl rfl, Kept.refl _ _⟩
  case round =>
    obtain ⟨k, g', hk, rfl, hw, hg, hkp⟩ := hrel
    by_cases hc : k < n
    · have hwo := hw
      obtain ⟨v0, hv1, hv2, hv3⟩ := hwo
      obtain ⟨c0, c1⟩ := cell_of_pair hv1
      have hp := hw.lt
      have f0 := free_of_block (o := 0) hv1
      have hsz := hkp.size
      have hlen : (bs ++ fixedB k v).length = bs.length + k := by simp [fixedB]
      have hw8 : IntKind.i64.wrap (8 * (k : Int)) = 8 * (k : Int) := by rw [IntKind.wrap_i64]; omega
      obtain ⟨z, hz⟩ : ∃ z, z = v / 256 ^ k % 256 := ⟨_, rfl⟩
      have hwz : IntKind.u8.wrap (v / 2 ^ (8 * (k : Int)).toNat) = z := by
        rw [IntKind.wrap_u8, hz, show (8 * (k : Int)).toNat = 8 * k from by omega, Int.pow_mul]; rfl
      have Hz : Hid (z = v / 256 ^ k % 256) := hz
      have hnew := World.new_ne wr ⟨p, 0, none⟩ c0
      obtain ⟨xs, hxs⟩ : ∃ xs, xs = bs ++ fixedB k v := ⟨_, rfl⟩
      rw [← hxs] at hlen hw hv3
      have Hx : Hid _ := hxs
      subst hv2
      have hne : v0.ownBlock ≠ some p := hw.ne
      have Hw : Hid _ := hw
      have Hg : Hid _ := hg
      have Hl : Hid _ := hlen
      have Hv1 : Hid _ := hv1
      clear h hw hg hlen hz hxs hv1
      go_wp2_with fail
      go_region_law
        ((refine step_append_lies _ (by rfl) _ _ _ (by rfl) B 5 i0 _ 1 1 Try.underlying34 hi hz0 hz1 hz2 rfl (by omega) v0 xs.length (B8 xs) (by rfl) ((hv3.alloc _).drew)
            ⟨wr.heap.size, 0, none⟩ 1 1 [.int .u8 z] (by rfl) (by rfl) (World.news_of_block (cs := #[.int .u8 z]) (t := 5) (fr := (0, 0)) (heap_alloc_new wr _)) (by simp [Value.oneCell'])
            (by omega) (by rw [Hl.out]; unfold maxLen; omega) (by rw [Hl.out]; omega) (by simp; omega) (wr.heap.size + 1) (by simp) ?_; intro gg cap w1 hown1 hgrow hat hlt; have f1 := (hgrow.frozen_far ⟨p, 0, none⟩ (by simp; omega) (Ne.symm hne)).trans ((frozen?_alloc_cells _ _ _ _).trans f0); have c2 := (hgrow.cell_far ⟨p, 0, none⟩ (by simp; omega) (Ne.symm hne)).trans ((World.cell?_alloc_past _ _ _ (by simpa using hp)).trans c0)))
      all_goals
        have P := push_step (ns := [z]) Hv1.out Hw.out _ (grownBy_undrew hgrow) hown1 hat
        clear hgrow hown1 hat
        go_wp2
        go_roundw
        case rel =>
          obtain ⟨gx, q1, q2, q3⟩ := wr_trans Hg.out hkp P.1 P.2.1 P.2.2
          refine ⟨k + 1, gx, by omega, by go_num, ?_, q2, q3⟩
          rw [fixedB_succ, ← List.append_assoc, ← Hx.out, ← Hz.out]
          exact q1
        case measure => simp [intOf]; omega
    · obtain rfl : k = n := by omega
      clear h
      go_wp2
      go_end0
      exact ⟨rfl, g', hw, hg, hkp⟩

end Go.Proofs.Ytdnlfacfleemeaa

namespace Go.Proofs.Ytdnlfacfleemeaa
open Go.RowKit

/-- v is a slice whose elements are the bytes bs. -/
def Sl (w : World) (v : Value) (bs : List Int) : Prop :=
  ∃ ao cap, v = .slice ao bs.length cap ∧ bs.length ≤ cap ∧ (bs ≠ [] → ∃ b off, ao = some ⟨b, off, none⟩ ∧ ∀ j x, bs[j]? = some x → w.cell? ⟨b, off + j, none⟩ = some (.int .u8 x))

theorem add_lit (b off j : Nat) : (⟨b, off, none⟩ : Addr).add j = ⟨b, off + j, none⟩ := by
  unfold Addr.add; split <;> simp_all

theorem sl_of_owns {w : World} {B : Nat} {v : Value} {bs : List Int} {n : Nat} (h : w.ownsRow B 5 1 v n (B8 bs)) : Sl w v bs := by
  have hl : n = bs.length := by have := h.1; simp at this; omega
  subst hl
  rcases h.2 with ⟨rfl, h0⟩ | ⟨g, cap, cur, rfl, hb, hg, hc, _, hs, ht⟩
  · have : bs = [] := List.eq_nil_of_length_eq_zero h0
    subst this
    exact ⟨none, 0, rfl, Nat.le_refl _, fun h => absurd rfl h⟩
  · refine ⟨_, cap, rfl, hc, fun _ => ⟨g, 0, rfl, ?_⟩⟩
    intro j x hx
    have := h.cells (g := g) rfl j (.int .u8 x) (by simp [B8, hx])
    rwa [add_lit] at this

theorem Sl.kept {w w' : World} {v : Value} {bs : List Int} {S : Nat → Prop} (h : Sl w v bs) (hk : Kept S w w') (hn : ∀ k, v.ownBlock = some k → ¬ S k) : Sl w' v bs := by
  obtain ⟨ao, cap, rfl, hc, hx⟩ := h
  refine ⟨ao, cap, rfl, hc, fun hne => ?_⟩
  obtain ⟨b, off, rfl, hj⟩ := hx hne
  exact ⟨b, off, rfl, fun j x e => hk.cell (hj j x e) (hn b rfl)⟩

theorem Sl.below {w w' : World} {v : Value} {bs : List Int} (h : Sl w v bs) (hk : Below w.heap.size w w') : Sl w' v bs :=
  h.kept (Kept.ofBelow hk) (fun _ _ h => h)

/-- A slice of its own, whole in block g. -/
def Own (w : World) (g : Nat) (bs : List Int) : Prop := w.heap[g]? = some (.cells (B8 bs).toArray 5 (0, 0))

theorem Own.owns {w : World} {g : Nat} {bs : List Int} {B : Nat} (h : Own w g bs) (hB : B ≤ g) (hl : bs.length ≤ maxLen) : w.ownsRow B 5 1 (.slice (some ⟨g, 0, none⟩) bs.length bs.length) bs.length (B8 bs) := by
  refine ⟨by simp, .inr ⟨g, bs.length, _, rfl, hB, h, Nat.le_refl _, hl, by simp, ?_⟩⟩
  rw [List.take_of_length_le (by simp)]

theorem madeCells_bytes (n : Nat) : (madeCells (Value.int .u8 0).cells (n * 1)).toList.length = n := by
  simp [madeCells, Value.cells]

set_option maxRecDepth 100000 in
set_option maxHeartbeats 800000 in
theorem clone_any (v : Value) (bs : List Int) (w : World) (h : Sl w v bs) (hl : bs.length ≤ 1000000000) :
    Calls Try.prog 32 #[v] w fun x w' => x = .returned (.slice (some ⟨w.heap.size, 0, none⟩) bs.length bs.length) ∧ Own w' w.heap.size bs ∧ Below w.heap.size w w' := by
  obtain ⟨i0, hi, hz0, hz1, hz2⟩ := info_parts Try.info5
  obtain ⟨ao, cap, rfl, hc, hx⟩ := h
  have hsz : (Try.prog.info? 5).map (·.size) = some 1 := by rw [hi]; simp [hz1]
  have Hx : Hid _ := hx
  clear hx
  go_enter Try.func32, Try.ntmps32
  go_wp2_with (at_make; refine wpList_make_full _ rfl _ _ 34 rfl w.heap.size 5 i0 (.int .u8 0) 1 Try.underlying34 hi hz0 hz1 _ _ _ _ bs.length rfl rfl rfl rfl (by rw [hz2]; omega) (by unfold maxLen; omega) (Nat.le_refl _) ?_)
  intro w1 ho hg
  have hbel : Below w.heap.size w w1 := (Below.refl _ _).grown hg (Nat.le_refl _) (by intro k hk; cases hk)
  have hrow : ∃ cur : List Value, w1.heap[w.heap.size]? = some (.cells cur.toArray 5 (0, 0)) ∧ cur.length = bs.length := by
    rcases ho.2 with ⟨h1, _⟩ | ⟨g, cp, cur, h1, _, h2, _, _, h3, _⟩
    · cases h1
    · simp at h1
      obtain ⟨rfl, rfl⟩ := h1
      exact ⟨cur.toList, by simpa using h2, by simpa using h3⟩
  obtain ⟨cur, hcur, hcl⟩ := hrow
  have Hl : Hid _ := hcl
  clear ho hg hcl
  go_wp2_with (refine wpList_copy_splice (by rfl) (.tmp 7) (.tmp 8) 34 34 rfl 5 Try.underlying34 hsz _ _ _ _ _ _ rfl rfl w.heap.size 0 cur 5 hcur (B8 bs) (by simp) ?hpos (by rw [Hl.out]; simp) (by intro u hu; obtain ⟨_, _, rfl⟩ := List.mem_map.1 hu; rfl) w.heap.size w hbel (Nat.le_refl _) ?_)
  case hpos =>
    intro hp
    have hne : bs ≠ [] := by intro e; subst e; simp at hp
    obtain ⟨b, off, rfl, hj⟩ := Hx.out hne
    refine ⟨_, rfl, ?_⟩
    intro j u hu
    rw [add_lit]
    have := hj j u hu
    exact (hbel.cell (World.block_lt_of_cell? _ _ this)).trans this
  intro w2 hg2 hb2
  go_wp2
  go_ret
  refine ⟨rfl, ?_, hb2⟩
  have := hg2.out
  unfold Own
  rw [this]
  congr 3
  have := Hl.out
  simp [splice]
  omega

end Go.Proofs.Ytdnlfacfleemeaa

namespace Go.Proofs.Ytdnlfacfleemeaa
open Go.RowKit

/-- A store of an error into a Writer. -/
theorem wr_err {B p : Nat} {g : Option Nat} {bs : List Int} {e e2 : Int} {w : World} (h : Wr B w p g bs e) : WrStep B p g w (w.setCell ⟨p, 1, none⟩ (.int .i64 e2)) bs e2 := by
  have hne := h.ne
  obtain ⟨v, h1, rfl, h3⟩ := h
  have hk : Kept (fun k => k = p) w (w.setCell ⟨p, 1, none⟩ (.int .i64 e2)) := Kept.setCell (p := ⟨p, 1, none⟩) (Kept.refl (fun k => k = p) w) (fun _ => rfl) _
  exact ⟨v.ownBlock, ⟨v, heap_setCell_same1 h1, rfl, ownsRow_kept h3 hk (fun k hj e => hne (by rw [← e]; exact hj))⟩, .inl rfl, hk.mono (fun _ _ h => .inl h)⟩

/-- What a call leaves of (bytes, error). -/
def wfixZ (s : List Int × Int) (v n : Int) : List Int × Int := if s.2 = 0 then (if n < 0 ∨ 8 < n then (s.1, 1) else (s.1 ++ fixedB n.toNat v, 0)) else s
def wnumZ (s : List Int × Int) (v : Int) : List Int × Int := if s.2 = 0 then (if v < 0 then (s.1, 15) else (s.1 ++ rowF 10 v, 0)) else s
def wintZ (s : List Int × Int) (v : Int) : List Int × Int := if s.2 = 0 then (s.1 ++ rowF 10 (foldZ v), 0) else s
def wtextZ (s : List Int × Int) (t : List Int) : List Int × Int := if s.2 = 0 then (s.1 ++ rowF 10 t.length ++ t, 0) else s

set_option maxRecDepth 100000 in
set_option maxHeartbeats 800000 in
theorem wfixed_any (B p : Nat) (g : Option Nat) (bs : List Int) (e : Int) (w : World) (v : Int) (n : Int) (h : Wr B w p g bs e) (hB : B ≤ w.heap.size) (hu0 : 0 ≤ v) (hu1 : v < 18446744073709551616) (hl : bs.length ≤ 1000000000) :
    Calls Try.prog 39 #[.pointer (some ⟨p, 0, none⟩), .int .u64 v, .int .i64 n] w fun x w' => x = .returned (.tuple #[]) ∧ WrStep B p g w w' (wfixZ (bs, e) v n).1 (wfixZ (bs, e) v n).2 := by
  by_cases he : e = 0
  · subst he
    by_cases hn : n < 0 ∨ 8 < n
    · have hr : wfixZ (bs, 0) v n = (bs, 1) := by unfold wfixZ; rw [if_pos rfl, if_pos hn]
      rw [hr]
      have hh := h
      obtain ⟨v0, hv1, hv2, hv3⟩ := hh
      obtain ⟨c0, c1⟩ := cell_of_pair hv1
      have f1 := free_of_block (o := 1) hv1
      clear hv1 hv2 hv3 hr
      rcases hn with hn | hn
      · go_enter Try.func39, Try.ntmps39
        go_wp2_with (go_at_call 26; refine (open_any B p g bs 0 _ h).mono ?_; rintro e w' ⟨rfl, hww⟩; subst hww)
        refine bodyPost_ret (results_none Try.results39 _ _ _) rfl ?_
        exact ⟨rfl, wr_err h⟩
      · have hn' : ¬ n < 0 := by omega
        go_enter Try.func39, Try.ntmps39
        go_wp2_with (go_at_call 26; refine (open_any B p g bs 0 _ h).mono ?_; rintro e w' ⟨rfl, hww⟩; subst hww)
        refine bodyPost_ret (results_none Try.results39 _ _ _) rfl ?_
        exact ⟨rfl, wr_err h⟩
    · have hr : wfixZ (bs, 0) v n = (bs ++ fixedB n.toNat v, 0) := by unfold wfixZ; rw [if_pos rfl, if_neg hn]
      rw [hr]
      obtain ⟨k, rfl⟩ := Int.eq_ofNat_of_zero_le (show 0 ≤ n by omega)
      exact wfixed_ok B p g bs w v k h hB hu0 hu1 (by omega) hl
  · have hr : wfixZ (bs, e) v n = (bs, e) := by unfold wfixZ; rw [if_neg he]
    rw [hr]
    have he' : (e == 0) = false := by simpa using he
    clear hr
    go_enter Try.func39, Try.ntmps39
    go_wp2_with (go_at_call 26; refine (open_any B p g bs e _ h).mono ?_; rintro e w' ⟨rfl, hww⟩; subst hww)
    refine bodyPost_ret (results_none Try.results39 _ _ _) rfl ?_
    exact ⟨rfl, WrStep.refl h⟩

set_option maxRecDepth 100000 in
set_option maxHeartbeats 800000 in
theorem wbyte_any (B p : Nat) (g : Option Nat) (bs : List Int) (e : Int) (w : World) (v : Int) (h : Wr B w p g bs e) (hB : B ≤ w.heap.size) (hu0 : 0 ≤ v) (hu1 : v < 256) (hl : bs.length ≤ 1000000000) :
    Calls Try.prog 28 #[.pointer (some ⟨p, 0, none⟩), .int .u8 v] w fun x w' => x = .returned (.tuple #[]) ∧ WrStep B p g w w' (wfixZ (bs, e) v 1).1 (wfixZ (bs, e) v 1).2 := by
  go_enter Try.func28, Try.ntmps28
  go_wp2_with (go_at_call 39; refine (wfixed_any B p g bs e _ v 1 h hB hu0 (by omega) hl).mono ?_; rintro x w' ⟨rfl, hw1⟩)
  go_end0
  exact ⟨rfl, by assumption⟩

set_option maxRecDepth 100000 in
set_option maxHeartbeats 800000 in
theorem wnum_any (B p : Nat) (g : Option Nat) (bs : List Int) (e : Int) (w : World) (v : Int) (h : Wr B w p g bs e) (hB : B ≤ w.heap.size) (hu1 : v < 9223372036854775808) (hl : bs.length ≤ 1000000000) :
    Calls Try.prog 16 #[.pointer (some ⟨p, 0, none⟩), .int .i64 v] w fun x w' => x = .returned (.tuple #[]) ∧ WrStep B p g w w' (wnumZ (bs, e) v).1 (wnumZ (bs, e) v).2 := by
  by_cases he : e = 0
  · subst he
    by_cases hn : v < 0
    · have hr : wnumZ (bs, 0) v = (bs, 15) := by unfold wnumZ; rw [if_pos rfl, if_pos hn]
      rw [hr]
      have hh := h
      obtain ⟨v0, hv1, hv2, hv3⟩ := hh
      obtain ⟨c0, c1⟩ := cell_of_pair hv1
      have f1 := free_of_block (o := 1) hv1
      clear hv1 hv2 hv3 hr
      go_enter Try.func16, Try.ntmps16
      go_wp2_with (go_at_call 26; refine (open_any B p g bs 0 _ h).mono ?_; rintro e w' ⟨rfl, hww⟩; subst hww)
      refine bodyPost_ret (results_none Try.results16 _ _ _) rfl ?_
      exact ⟨rfl, wr_err h⟩
    · have hr : wnumZ (bs, 0) v = (bs ++ rowF 10 v, 0) := by unfold wnumZ; rw [if_pos rfl, if_neg hn]
      rw [hr]
      have h0 : 0 ≤ v := by omega
      clear hr hn
      go_enter Try.func16, Try.ntmps16
      go_wp2_with (first | (go_at_call 26; refine (open_any B p g bs 0 _ h).mono ?_; rintro e w' ⟨rfl, hww⟩; subst hww) | (go_at_call 27; refine (wrow_any B p g bs 0 _ v h hB h0 (by omega) hl).mono ?_; rintro e w' ⟨rfl, hw1⟩))
      go_end0
      exact ⟨rfl, by assumption⟩
  · have hr : wnumZ (bs, e) v = (bs, e) := by unfold wnumZ; rw [if_neg he]
    rw [hr]
    have he' : (e == 0) = false := by simpa using he
    clear hr
    go_enter Try.func16, Try.ntmps16
    go_wp2_with (go_at_call 26; refine (open_any B p g bs e _ h).mono ?_; rintro e w' ⟨rfl, hww⟩; subst hww)
    refine bodyPost_ret (results_none Try.results16 _ _ _) rfl ?_
    exact ⟨rfl, WrStep.refl h⟩

theorem foldZ_bd (v : Int) (h0 : -9223372036854775808 ≤ v) (h1 : v < 9223372036854775808) : 0 ≤ foldZ v ∧ foldZ v < 18446744073709551616 := by
  unfold foldZ; split <;> omega

set_option maxRecDepth 100000 in
set_option maxHeartbeats 800000 in
theorem wint_any (B p : Nat) (g : Option Nat) (bs : List Int) (e : Int) (w : World) (v : Int) (h : Wr B w p g bs e) (hB : B ≤ w.heap.size) (hu0 : -9223372036854775808 ≤ v) (hu1 : v < 9223372036854775808) (hl : bs.length ≤ 1000000000) :
    Calls Try.prog 45 #[.pointer (some ⟨p, 0, none⟩), .int .i64 v] w fun x w' => x = .returned (.tuple #[]) ∧ WrStep B p g w w' (wintZ (bs, e) v).1 (wintZ (bs, e) v).2 := by
  by_cases he : e = 0
  · subst he
    have hr : wintZ (bs, 0) v = (bs ++ rowF 10 (foldZ v), 0) := by unfold wintZ; rw [if_pos rfl]
    rw [hr]
    obtain ⟨hf0, hf1⟩ := foldZ_bd v hu0 hu1
    clear hr
    go_enter Try.func45, Try.ntmps45
    go_wp2_with (first | (go_at_call 26; refine (open_any B p g bs 0 _ h).mono ?_; rintro e w' ⟨rfl, hww⟩; subst hww) | (go_at_call 67; refine (fold_any v _ hu0 hu1).mono ?_; rintro e w' ⟨rfl, hww⟩; subst hww) | (go_at_call 27; refine (wrow_any B p g bs 0 _ (foldZ v) h hB hf0 hf1 hl).mono ?_; rintro e w' ⟨rfl, hw1⟩))
    go_end0
    exact ⟨rfl, by assumption⟩
  · have hr : wintZ (bs, e) v = (bs, e) := by unfold wintZ; rw [if_neg he]
    rw [hr]
    have he' : (e == 0) = false := by simpa using he
    clear hr
    go_enter Try.func45, Try.ntmps45
    go_wp2_with (go_at_call 26; refine (open_any B p g bs e _ h).mono ?_; rintro e w' ⟨rfl, hww⟩; subst hww)
    refine bodyPost_ret (results_none Try.results45 _ _ _) rfl ?_
    exact ⟨rfl, WrStep.refl h⟩

set_option maxRecDepth 100000 in
set_option maxHeartbeats 800000 in
theorem wdata_any (B p : Nat) (g : Option Nat) (bs : List Int) (e : Int) (w : World) (h : Wr B w p g bs e) (hl : bs.length ≤ 1000000000) :
    Calls Try.prog 19 #[.pointer (some ⟨p, 0, none⟩)] w fun x w' => x = .returned (.slice (some ⟨w.heap.size, 0, none⟩) bs.length bs.length) ∧ Own w' w.heap.size bs ∧ Below w.heap.size w w' := by
  obtain ⟨v, h1, _, h3⟩ := h
  obtain ⟨c0, c1⟩ := cell_of_pair h1
  have hs := sl_of_owns h3
  clear h1 h3
  go_enter Try.func19, Try.ntmps19
  go_wp2_with (go_at_call 32; refine (clone_any v bs _ hs hl).mono ?_; rintro x w' ⟨rfl, hw1, hw2⟩)
  go_ret
  exact ⟨rfl, by assumption, by assumption⟩

end Go.Proofs.Ytdnlfacfleemeaa

namespace Go.Proofs.Ytdnlfacfleemeaa
open Go.RowKit Go.Lib

/-- A text's bytes. -/
def strBs (s : ByteArray) : List Int := s.data.toList.map fun b => (b.toNat : Int)
theorem strBs_len (s : ByteArray) : (strBs s).length = s.size := by
  unfold strBs; rw [List.length_map, Array.length_toList]; rfl
theorem strCells_B8 (s : ByteArray) : strCells s = B8 (strBs s) := by
  simp [strCells, strBs, B8, List.map_map, Function.comp_def]

/-- Where the bytes of a text, appended to a row, come to lie. -/
theorem append_str_at {P : Program} (w : World) (B : Nat) (t u ty e : TypeId) (i : TypeInfo) (ht : P.underlying t = some (.slice e)) (hu : P.underlying u = some .string) (hi : P.info? e = some i) (hz : i.zero = some (.int .u8 0))
    (hsize : i.size = 1) (hby : i.bytes = 1) (v : Value) (n : Nat) (xs : List Value) (hn : 0 < n) (hown : w.ownsRow B e 1 v n xs) (s : ByteArray)
    (h63 : n + s.size ≤ maxLen) (hbytes : n + s.size ≤ 140737488355328) (hbase : B ≤ w.heap.size) :
    ∃ g cap w', (Builtin.append_ #[t, u] ty #[v, .string s]).run P w = .ok (.slice (some ⟨g, 0, none⟩) (n + s.size) cap) w' ∧ w'.ownsRow B e 1 (.slice (some ⟨g, 0, none⟩) (n + s.size) cap) (n + s.size) (xs ++ strCells s) ∧
      w.grownBy w' v.ownBlock ∧ (v.ownBlock = some g ∨ g = w.heap.size) := by
  obtain ⟨v', w', hr, h2, h3, _⟩ := run_append_own_string (P := P) w B t u ty e i ht hu hi hz hsize hby v n xs hown s h63 hbytes hbase
  have hxl : xs.length = n := by simpa using hown.1
  rcases hown.2 with ⟨_, h0⟩ | ⟨g, cap, cur, rfl, _, hg, _, _, hcs, _⟩
  · omega
  · by_cases hroom : n + s.size ≤ cap
    · have hr2 := run_append_room_string (P := P) w t u ty e i ht hu hi hsize g n cap cur hg s hroom (by omega)
      have hv := hr
      rw [hr2] at hv
      injection hv with hv1 hv2
      subst hv1
      exact ⟨g, cap, w', hr, h2, h3, .inl rfl⟩
    · have holds : ∀ j u, xs[j]? = some u → w.cell? ((⟨g, 0, none⟩ : Addr).add j) = some u := hown.cells (g := g) rfl
      have hr2 := run_append_grow_string (P := P) w t u ty e i (.int .u8 0) ht hu hi hz ⟨g, 0, none⟩ n cap xs (by rw [hsize]; omega) holds s (by omega) (by simp only [maxLen] at h63; omega) (by rw [hby]; exact growslice_fits (by omega) (by omega))
      have hv := hr
      rw [hr2] at hv
      injection hv with hv1 hv2
      subst hv1
      exact ⟨_, _, w', hr, h2, h3, .inr rfl⟩

theorem wpList_append_str_at {P : Program} (w : World) {ops : Array Oper} {rest : List Oper} {o : Oper} {a : Act} {Q : Exit → Act → World → Prop} (hgd : o.guard = none) (sl x : Operand) (t u : TypeId)
    (ho : o.op = .call { callee := .builtin .append, args := #[sl, x], argTypes := #[t, u] })
    (B : Nat) (e : TypeId) (i : TypeInfo) (ht : P.underlying t = some (.slice e)) (hu : P.underlying u = some .string) (hi : P.info? e = some i) (hz : i.zero = some (.int .u8 0))
    (hsize : i.size = 1) (hby : i.bytes = 1) (v : Value) (n : Nat) (xs : List Value) (hn : 0 < n) (hs : a.eval sl = v) (hown : w.ownsRow B e 1 v n xs) (s : ByteArray) (hx : a.eval x = .string s)
    (h63 : n + s.size ≤ maxLen) (hbytes : n + s.size ≤ 140737488355328) (hbase : B ≤ w.heap.size)
    (h : ∀ g cap w', w'.ownsRow B e 1 (.slice (some ⟨g, 0, none⟩) (n + s.size) cap) (n + s.size) (xs ++ strCells s) → w.grownBy w' v.ownBlock → (v.ownBlock = some g ∨ g = w.heap.size) → wpList P ops Q rest (a.put o.dst (.slice (some ⟨g, 0, none⟩) (n + s.size) cap)) w') : wpList P ops Q (o :: rest) a w := by
  refine wpList_plain hgd fun K hK => ?_
  obtain ⟨g, cap, w', hr, h2, h3, h4⟩ := append_str_at (P := P) w B t u o.type e i ht hu hi hz hsize hby v n xs hn hown s h63 hbytes hbase
  unfold Oper.wp execOp
  simp only [ho, resolve, invoke, builtin, Sem.run_bind, Sem.run_pure, Result.andThen_ok, List.map_toArray, List.map_cons, List.map_nil, hs, hx, hr]
  exact hK _ _ (h g cap w' h2 h3 h4)

theorem rowF_pos (f : Nat) (u : Int) : 0 < (rowF f u).length := by
  cases f with
  | zero => simp [rowF]
  | succ f => unfold rowF; split <;> simp
theorem rowF_le (f : Nat) (u : Int) : (rowF f u).length ≤ f + 1 := by
  induction f generalizing u with
  | zero => simp [rowF]
  | succ f ih => unfold rowF; split
                 · have := ih (u / 128); simp; omega
                 · simp

/-- The Writer's block behind an append without a new block ahead. -/
theorem push_block0 {B : Nat} {w w1 : World} {p : Nat} {v : Value} {e : Int} {bs : List Int} (h1 : w.heap[p]? = some (.cells #[v, .int .i64 e] 57 (0, 0))) (hw : Wr B w p v.ownBlock bs e)
    (hgrow : w.grownBy w1 v.ownBlock) : w1.heap[p]? = some (.cells #[v, .int .i64 e] 57 (0, 0)) := by
  have hp := (Array.getElem?_eq_some_iff.1 h1).1
  rw [hgrow.block p hp (fun h => hw.ne h.symm)]
  exact h1

theorem push_step0 {B : Nat} {w w1 : World} {p : Nat} {v : Value} {e : Int} {bs ns : List Int} (h1 : w.heap[p]? = some (.cells #[v, .int .i64 e] 57 (0, 0))) (hw : Wr B w p v.ownBlock bs e)
    (hgrow : w.grownBy w1 v.ownBlock) {g n cap : Nat} (hown : w1.ownsRow B 5 1 (.slice (some ⟨g, 0, none⟩) n cap) n (B8 bs ++ B8 ns)) (hat : v.ownBlock = some g ∨ g = w.heap.size) :
    WrStep B p v.ownBlock w (w1.setCell ⟨p, 0, none⟩ (.slice (some ⟨g, 0, none⟩) n cap)) (bs ++ ns) e := by
  have hp := (Array.getElem?_eq_some_iff.1 h1).1
  have hb := push_block0 h1 hw hgrow
  have hne : g ≠ p := by
    rcases hat with h | h
    · intro e; subst e; exact hw.ne h
    · omega
  have hn : n = (bs ++ ns).length := by
    have := hown.1
    simp at this
    simp
    omega
  refine ⟨some g, ⟨_, heap_setCell_same hb, rfl, ?_⟩, ?_, ?_⟩
  · rw [← hn]
    have h2 : (w1.setCell ⟨p, 0, none⟩ (.slice (some ⟨g, 0, none⟩) n cap)).ownsRow B 5 1 (.slice (some ⟨g, 0, none⟩) n cap) n (B8 bs ++ B8 ns) :=
      ownsRow_kept hown (S := fun k => k = p) ⟨rfl, rfl, rfl, by simp [World.setCell], fun k _ hn => Below.heap_setCell _ _ _ _ hn⟩ (by intro k hk; simp [Value.ownBlock] at hk; omega)
    simpa using h2
  · rcases hat with h | h
    · exact .inl h.symm
    · exact .inr ⟨g, by omega, rfl⟩
  · refine Kept.setCell (Kept.grown (Kept.refl _ w) hgrow ?_) ?_ _
    · intro k _ hk; exact .inr hk
    · intro _; exact .inl rfl

set_option maxRecDepth 100000 in
set_option maxHeartbeats 800000 in
theorem wtext_any (B p : Nat) (g : Option Nat) (bs : List Int) (e : Int) (w : World) (s : ByteArray) (h : Wr B w p g bs e) (hB : B ≤ w.heap.size) (hs : s.size ≤ 1000000000) (hl : bs.length ≤ 1000000000) :
    Calls Try.prog 30 #[.pointer (some ⟨p, 0, none⟩), .string s] w fun x w' => x = .returned (.tuple #[]) ∧ WrStep B p g w w' (wtextZ (bs, e) (strBs s)).1 (wtextZ (bs, e) (strBs s)).2 := by
  by_cases he : e = 0
  · subst he
    obtain ⟨i0, hi, hz0, hz1, hz2⟩ := info_parts Try.info5
    have hr : wtextZ (bs, 0) (strBs s) = (bs ++ rowF 10 (s.size : Int) ++ strBs s, 0) := by unfold wtextZ; rw [if_pos rfl, strBs_len]
    rw [hr]
    clear hr
    have hl1 := rowF_pos 10 (s.size : Int)
    have hl2 := rowF_le 10 (s.size : Int)
    obtain ⟨R, hR⟩ : ∃ R, R = bs ++ rowF 10 (s.size : Int) := ⟨_, rfl⟩
    have hRl : R.length ≤ bs.length + 11 ∧ 0 < R.length := by rw [hR]; simp; omega
    rw [← hR]
    have HR : Hid _ := hR
    clear hR
    go_enter Try.func30, Try.ntmps30
    go_wp2_with (first | (go_at_call 26; refine (open_any B p g bs 0 _ h).mono ?_; rintro e w' ⟨rfl, hww⟩; subst hww) | fail)
    refine (wrow_any B p g bs 0 _ (s.size : Int) h hB (by omega) (by omega) hl).mono ?_
    rintro x w1 ⟨rfl, g1, hw1, hg1, hk1⟩
    rw [← HR.out] at hw1
    have hw1o := hw1
    obtain ⟨v, hv1, hv2, hv3⟩ := hw1o
    subst hv2
    obtain ⟨c0, c1⟩ := cell_of_pair hv1
    have hsz := hk1.size
    have Hw : Hid _ := hw1
    have Hg : Hid _ := hg1
    have Hv : Hid _ := hv1
    clear hw1 hg1 h hl1 hl2 hv1
    go_wp2_with (at_builtin; refine wpList_append_str_at _ rfl _ _ 34 9 rfl B 5 i0 Try.underlying34 Try.underlying9 hi hz0 hz1 hz2 v R.length (B8 R) (by omega) rfl hv3 s rfl (by unfold maxLen; omega) (by omega) (by omega) ?_)
    intro g2 cap w2 hown hgrow hat
    have hb1 := push_block0 Hv.out Hw.out hgrow
    rw [strCells_B8] at hown
    have P := push_step0 Hv.out Hw.out hgrow hown hat
    obtain ⟨d0, d1⟩ := cell_of_pair hb1
    have d2 := free_of_block (o := 0) hb1
    clear hb1 hown hgrow hat c0 c1
    go_wp2
    go_end0
    obtain ⟨ga, qa, qb, qc⟩ := P
    exact ⟨rfl, wr_trans Hg.out hk1 qa qb qc⟩
  · have hr : wtextZ (bs, e) (strBs s) = (bs, e) := by unfold wtextZ; rw [if_neg he]
    rw [hr]
    have he' : (e == 0) = false := by simpa using he
    clear hr
    go_enter Try.func30, Try.ntmps30
    go_wp2_with (go_at_call 26; refine (open_any B p g bs e _ h).mono ?_; rintro e w' ⟨rfl, hww⟩; subst hww)
    refine bodyPost_ret (results_none Try.results30 _ _ _) rfl ?_
    exact ⟨rfl, WrStep.refl h⟩

end Go.Proofs.Ytdnlfacfleemeaa

namespace Go.Proofs.Ytdnlfacfleemeaa
open Go.RowKit

/-- least ≤ n ≤ most. -/
def withinB (n l m : Int) : Bool := decide (l ≤ n) && decide (n ≤ m)

set_option maxRecDepth 100000 in
theorem within_any (n l m : Int) (w : World) : Calls Try.prog 55 #[.int .i64 n, .int .i64 l, .int .i64 m] w fun x w' => x = .returned (.bool (withinB n l m)) ∧ w' = w := by
  by_cases h1 : l ≤ n
  · by_cases h2 : n ≤ m
    · go_enter Try.func55, Try.ntmps55
      go_wp2
      go_ret
      exact ⟨by simp [withinB, h1, h2], rfl⟩
    · have h3 : decide (n ≤ m) = false := by simpa using h2
      go_enter Try.func55, Try.ntmps55
      go_wp2
      go_ret
      exact ⟨by simp [withinB, h1, h2], rfl⟩
  · have h3 : decide (l ≤ n) = false := by simpa using h1
    go_enter Try.func55, Try.ntmps55
    go_wp2
    go_ret
    exact ⟨by simp [withinB, h3], rfl⟩

/-- A letter. -/
def letB (c : Int) : Bool := (decide (97 ≤ c) && decide (c ≤ 122)) || (decide (65 ≤ c) && decide (c ≤ 90))
/-- A byte of a name. -/
def nbB (c : Int) : Bool := c == 95 || c == 45 || c == 46 || letB c || (decide (48 ≤ c) && decide (c ≤ 57))

set_option maxRecDepth 100000 in
set_option maxHeartbeats 800000 in
theorem isLetter_any (c : Int) (w : World) : Calls Try.prog 73 #[.int .u8 c] w fun x w' => x = .returned (.bool (letB c)) ∧ w' = w := by
  rcases Bool.eq_false_or_eq_true (decide (97 ≤ c)) with h1 | h1 <;> rcases Bool.eq_false_or_eq_true (decide (c ≤ 122)) with h2 | h2 <;>
    rcases Bool.eq_false_or_eq_true (decide (65 ≤ c)) with h3 | h3 <;> rcases Bool.eq_false_or_eq_true (decide (c ≤ 90)) with h4 | h4 <;>
  · go_enter Try.func73, Try.ntmps73
    go_wp2
    go_ret
    exact ⟨by simp [letB, h1, h2, h3, h4], rfl⟩

set_option maxRecDepth 100000 in
set_option maxHeartbeats 800000 in
theorem isNameByte_any (c : Int) (w : World) : Calls Try.prog 74 #[.int .u8 c] w fun x w' => x = .returned (.bool (nbB c)) ∧ w' = w := by
  by_cases e1 : (c == 95) = true
  · go_enter Try.func74, Try.ntmps74
    go_wp2
    go_ret
    exact ⟨by simp [nbB, e1], rfl⟩
  have e1 : (c == 95) = false := by simpa using e1
  by_cases e2 : (c == 45) = true
  · go_enter Try.func74, Try.ntmps74
    go_wp2
    go_ret
    exact ⟨by simp [nbB, e2], rfl⟩
  have e2 : (c == 45) = false := by simpa using e2
  by_cases e3 : (c == 46) = true
  · go_enter Try.func74, Try.ntmps74
    go_wp2
    go_ret
    exact ⟨by simp [nbB, e3], rfl⟩
  have e3 : (c == 46) = false := by simpa using e3
  obtain ⟨l, hl⟩ : ∃ l, l = letB c := ⟨_, rfl⟩
  have hL : ∀ w : World, Calls Try.prog 73 #[.int .u8 c] w fun x w' => x = .returned (.bool l) ∧ w' = w := by rw [hl]; exact isLetter_any c
  have HL := hid hL
  have Hl := hid hl
  clear hL hl
  rcases Bool.eq_false_or_eq_true l with h0 | h0 <;> rcases Bool.eq_false_or_eq_true (decide (48 ≤ c)) with h1 | h1 <;> rcases Bool.eq_false_or_eq_true (decide (c ≤ 57)) with h2 | h2 <;>
  · subst h0
    go_enter Try.func74, Try.ntmps74
    go_wp2_with (go_at_call 73; refine (HL.out _).mono ?_; rintro e w' ⟨rfl, rfl⟩)
    go_ret
    exact ⟨by simp [nbB, e1, e2, e3, ← Hl.out, h1, h2], rfl⟩

/-- A procedure's name. -/
def nameB (s : ByteArray) : Bool := decide (1 ≤ s.size ∧ s.size ≤ 32 ∧ letB ((strBs s).headD 0) = true ∧ ∀ x ∈ strBs s, nbB x = true)

theorem strBs_at (s : ByteArray) (k : Nat) (h : k < s.size) : (strBs s)[k]? = some ((s[k].toNat : Int)) := by
  rw [List.getElem?_eq_getElem (by rw [strBs_len]; exact h)]
  congr 1
  simp [strBs]
  rfl

theorem strBs_head (s : ByteArray) (h : 0 < s.size) : (strBs s).headD 0 = (s[0].toNat : Int) := by
  have := strBs_at s 0 h
  cases hs : strBs s with
  | nil => rw [hs] at this; cases this
  | cons a l => rw [hs] at this; simpa using this

set_option maxRecDepth 100000 in
set_option maxHeartbeats 800000 in
theorem isName_any (s : ByteArray) (w : World) : Calls Try.prog 54 #[.string s] w fun x w' => x = .returned (.bool (nameB s)) ∧ w' = w := by
  obtain ⟨r, hr⟩ : ∃ r, r = nameB s := ⟨_, rfl⟩
  rw [← hr]
  have HR := hid hr
  clear hr
  by_cases h1 : withinB s.size 1 32 = true
  · have hs1 : 1 ≤ s.size ∧ s.size ≤ 32 := by simp [withinB] at h1; omega
    have hs2 : 0 < s.size := by omega
    obtain ⟨a0, ha0⟩ : ∃ a0 : UInt8, a0 = s[0]'hs2 := ⟨_, rfl⟩
    have hh := strBs_head s hs2
    rw [← ha0] at hh
    by_cases h2 : letB (a0.toNat : Int) = true
    · have HW := hid h1
      have HH := hid hh
      have HS := hid hs1
      have HL := hid h2
      have hsz : s.size ≤ 32 := hs1.2
      clear h1 hh hs1 h2
      go_enter Try.func54, Try.ntmps54
      go_wp2_with (first
        | (go_at_call 55; refine (within_any (s.size : Int) 1 32 _).mono ?_; rintro e w' ⟨rfl, e1⟩; rw [e1, HW.out]; clear e1 w')
        | (go_at_call 73; rw [← ha0]; refine (isLetter_any (a0.toNat : Int) _).mono ?_; rintro e w' ⟨rfl, e1⟩; rw [e1, HL.out]; clear e1 w'))
      go_loopw [16] (fun i wr => ∃ (k : Nat), k ≤ s.size ∧ i = .int .i64 k ∧ wr = w ∧ Hid (∀ x ∈ (strBs s).take k, nbB x = true)) (fun i _ => s.size - (intOf i).toNat)
      case atStart => exact ⟨0, Nat.zero_le _, rfl, rfl, hid (by simp)⟩
      case round =>
        obtain ⟨k, hk, rfl, rfl, hpre⟩ := hrel
        by_cases hlt : k < s.size
        · obtain ⟨a1, ha1⟩ : ∃ a1 : UInt8, a1 = s[k]'hlt := ⟨_, rfl⟩
          have hat := strBs_at s k hlt
          rw [← ha1] at hat
          by_cases h3 : nbB (a1.toNat : Int) = true
          · have H3 := hid h3
            have HA := hid hat
            clear h3 hat
            go_wp2_with (go_at_call 74; rw [← ha1]; refine (isNameByte_any (a1.toNat : Int) _).mono ?_; rintro e w' ⟨rfl, e1⟩; rw [e1, H3.out]; clear e1 w')
            go_roundw
            case rel =>
              refine ⟨k + 1, by omega, by go_num, (by first | rfl | trivial), hid ?_⟩
              intro x hx
              rw [List.take_add_one, HA.out] at hx
              rcases List.mem_append.1 hx with h | h
              · exact hpre.out x h
              · simp at h; rw [h]; exact H3.out
            case measure => simp [intOf]; omega
          · have h3 : nbB (a1.toNat : Int) = false := by simpa using h3
            have H3 := hid h3
            have HA := hid hat
            clear h3 hat
            go_wp2_with (go_at_call 74; rw [← ha1]; refine (isNameByte_any (a1.toNat : Int) _).mono ?_; rintro e w' ⟨rfl, e1⟩; rw [e1, H3.out]; clear e1 w')
            go_ret
            refine ⟨?_, rfl⟩
            rw [HR.out, show nameB s = false by
              simp only [nameB, decide_eq_false_iff_not]
              rintro ⟨_, _, _, hall⟩
              have := hall _ (List.mem_of_getElem? HA.out)
              rw [H3.out] at this
              cases this]
            rfl
        · have hall := hpre.out
          rw [List.take_of_length_le (by rw [strBs_len]; omega)] at hall
          have Hall := hid hall
          clear hall
          go_wp2
          go_ret
          refine ⟨?_, rfl⟩
          rw [HR.out, show nameB s = true by
            simp only [nameB, decide_eq_true_eq]
            exact ⟨HS.out.1, HS.out.2, by rw [HH.out]; exact HL.out, Hall.out⟩]
          rfl
    · have h2 : letB (a0.toNat : Int) = false := by simpa using h2
      have HW := hid h1
      have HH := hid hh
      have HL := hid h2
      clear h1 hh h2
      go_enter Try.func54, Try.ntmps54
      go_wp2_with (first
        | (go_at_call 55; refine (within_any (s.size : Int) 1 32 _).mono ?_; rintro e w' ⟨rfl, e1⟩; rw [e1, HW.out]; clear e1 w')
        | (go_at_call 73; rw [← ha0]; refine (isLetter_any (a0.toNat : Int) _).mono ?_; rintro e w' ⟨rfl, e1⟩; rw [e1, HL.out]; clear e1 w'))
      go_ret
      refine ⟨?_, rfl⟩
      rw [HR.out, show nameB s = false by
        simp only [nameB, decide_eq_false_iff_not]
        rintro ⟨_, _, h, _⟩
        rw [HH.out, HL.out] at h
        cases h]
      rfl
  · have h1 : withinB s.size 1 32 = false := by simpa using h1
    have HW := hid h1
    clear h1
    go_enter Try.func54, Try.ntmps54
    go_wp2_with (go_at_call 55; refine (within_any (s.size : Int) 1 32 _).mono ?_; rintro e w' ⟨rfl, e1⟩; rw [e1, HW.out]; clear e1 w')
    go_ret
    refine ⟨?_, rfl⟩
    rw [HR.out, show nameB s = false by
      simp only [nameB, decide_eq_false_iff_not]
      rintro ⟨h, h', _⟩
      have := HW.out
      simp [withinB] at this
      omega]
    rfl

end Go.Proofs.Ytdnlfacfleemeaa
