import Derived.Test.YtamajeagmkjjbaaWfix
import Derived.Test.YtamajeagmkjjbaaSl
import Derived.Deep.AppendSrc
namespace Go.Proofs.Ytamajeagmkjjbaa
open Go.RowKit

/-- A store of an error into a Writer. -/
theorem wr_err {B p : Nat} {g : Option Nat} {bs : List Int} {e e2 : Int} {w : World} (h : Wr B w p g bs e) : WrStep B p g w (w.setCell ⟨p, 1, none⟩ (.int .i64 e2)) bs e2 := by
  have hne := h.ne
  obtain ⟨v, h1, rfl, h3⟩ := h
  have hk : Kept (fun k => k = p) w (w.setCell ⟨p, 1, none⟩ (.int .i64 e2)) := Kept.setCell (p := ⟨p, 1, none⟩) (Kept.refl (fun k => k = p) w) (fun _ => rfl) _
  exact ⟨v.ownBlock, ⟨v, heap_setCell_same1 h1, rfl, ownsRow_kept h3 hk (fun k hj e => hne (by rw [← e]; exact hj))⟩, .inl rfl, hk.mono (fun _ _ h => .inl h)⟩

/-- What a call leaves of (bytes, error). -/
def wfixZ (s : List Int × Int) (v n : Int) : List Int × Int := if s.2 = 0 then (if n < 0 ∨ 8 < n then (s.1, 1) else (s.1 ++ fixedB n.toNat v, 0)) else s
def wnumZ (s : List Int × Int) (v : Int) : List Int × Int := if s.2 = 0 then (if v < 0 then (s.1, 15) else (s.1 ++ rowF 10 v, 0)) else s
def wintZ (s : List Int × Int) (v : Int) : List Int × Int := if s.2 = 0 then (s.1 ++ rowF 10 (foldZ v), 0) else s
def wtextZ (s : List Int × Int) (t : List Int) : List Int × Int := if s.2 = 0 then (s.1 ++ rowF 10 t.length ++ t, 0) else s

set_option maxRecDepth 100000 in
set_option maxHeartbeats 800000 in
theorem wfixed_any (B p : Nat) (g : Option Nat) (bs : List Int) (e : Int) (w : World) (v : Int) (n : Int) (h : Wr B w p g bs e) (hB : B ≤ w.heap.size) (hu0 : 0 ≤ v) (hu1 : v < 18446744073709551616) (hl : bs.length ≤ 1000000000) :
    Calls Try.prog 30 #[.pointer (some ⟨p, 0, none⟩), .int .u64 v, .int .i64 n] w fun x w' => x = .returned (.tuple #[]) ∧ WrStep B p g w w' (wfixZ (bs, e) v n).1 (wfixZ (bs, e) v n).2 := by
  by_cases he : e = 0
  · subst he
    by_cases hn : n < 0 ∨ 8 < n
    · have hr : wfixZ (bs, 0) v n = (bs, 1) := by unfold wfixZ; rw [if_pos rfl, if_pos hn]
      rw [hr]
      have hh := h
      obtain ⟨v0, hv1, hv2, hv3⟩ := hh
      obtain ⟨c0, c1⟩ := cell_of_pair hv1
      have f1 := free_of_block (o := 1) hv1
      clear hv1 hv2 hv3 hr
      rcases hn with hn | hn
      · go_enter Try.func30, Try.ntmps30
        go_wp2_with (go_at_call 50; refine (open_any B p g bs 0 _ h).mono ?_; rintro e w' ⟨rfl, hww⟩; subst hww)
        refine bodyPost_ret (results_none Try.results30 _ _ _) rfl ?_
        exact ⟨rfl, wr_err h⟩
      · have hn' : ¬ n < 0 := by omega
        go_enter Try.func30, Try.ntmps30
        go_wp2_with (go_at_call 50; refine (open_any B p g bs 0 _ h).mono ?_; rintro e w' ⟨rfl, hww⟩; subst hww)
        refine bodyPost_ret (results_none Try.results30 _ _ _) rfl ?_
        exact ⟨rfl, wr_err h⟩
    · have hr : wfixZ (bs, 0) v n = (bs ++ fixedB n.toNat v, 0) := by unfold wfixZ; rw [if_pos rfl, if_neg hn]
      rw [hr]
      obtain ⟨k, rfl⟩ := Int.eq_ofNat_of_zero_le (show 0 ≤ n by omega)
      exact wfixed_ok B p g bs w v k h hB hu0 hu1 (by omega) hl
  · have hr : wfixZ (bs, e) v n = (bs, e) := by unfold wfixZ; rw [if_neg he]
    rw [hr]
    have he' : (e == 0) = false := by simpa using he
    clear hr
    go_enter Try.func30, Try.ntmps30
    go_wp2_with (go_at_call 50; refine (open_any B p g bs e _ h).mono ?_; rintro e w' ⟨rfl, hww⟩; subst hww)
    refine bodyPost_ret (results_none Try.results30 _ _ _) rfl ?_
    exact ⟨rfl, WrStep.refl h⟩

set_option maxRecDepth 100000 in
set_option maxHeartbeats 800000 in
theorem wbyte_any (B p : Nat) (g : Option Nat) (bs : List Int) (e : Int) (w : World) (v : Int) (h : Wr B w p g bs e) (hB : B ≤ w.heap.size) (hu0 : 0 ≤ v) (hu1 : v < 256) (hl : bs.length ≤ 1000000000) :
    Calls Try.prog 31 #[.pointer (some ⟨p, 0, none⟩), .int .u8 v] w fun x w' => x = .returned (.tuple #[]) ∧ WrStep B p g w w' (wfixZ (bs, e) v 1).1 (wfixZ (bs, e) v 1).2 := by
  go_enter Try.func31, Try.ntmps31
  go_wp2_with (go_at_call 30; refine (wfixed_any B p g bs e _ v 1 h hB hu0 (by omega) hl).mono ?_; rintro x w' ⟨rfl, hw1⟩)
  go_end0
  exact ⟨rfl, by assumption⟩

set_option maxRecDepth 100000 in
set_option maxHeartbeats 800000 in
theorem wnum_any (B p : Nat) (g : Option Nat) (bs : List Int) (e : Int) (w : World) (v : Int) (h : Wr B w p g bs e) (hB : B ≤ w.heap.size) (hu1 : v < 9223372036854775808) (hl : bs.length ≤ 1000000000) :
    Calls Try.prog 27 #[.pointer (some ⟨p, 0, none⟩), .int .i64 v] w fun x w' => x = .returned (.tuple #[]) ∧ WrStep B p g w w' (wnumZ (bs, e) v).1 (wnumZ (bs, e) v).2 := by
  by_cases he : e = 0
  · subst he
    by_cases hn : v < 0
    · have hr : wnumZ (bs, 0) v = (bs, 15) := by unfold wnumZ; rw [if_pos rfl, if_pos hn]
      rw [hr]
      have hh := h
      obtain ⟨v0, hv1, hv2, hv3⟩ := hh
      obtain ⟨c0, c1⟩ := cell_of_pair hv1
      have f1 := free_of_block (o := 1) hv1
      clear hv1 hv2 hv3 hr
      go_enter Try.func27, Try.ntmps27
      go_wp2_with (go_at_call 50; refine (open_any B p g bs 0 _ h).mono ?_; rintro e w' ⟨rfl, hww⟩; subst hww)
      refine bodyPost_ret (results_none Try.results27 _ _ _) rfl ?_
      exact ⟨rfl, wr_err h⟩
    · have hr : wnumZ (bs, 0) v = (bs ++ rowF 10 v, 0) := by unfold wnumZ; rw [if_pos rfl, if_neg hn]
      rw [hr]
      have h0 : 0 ≤ v := by omega
      clear hr hn
      go_enter Try.func27, Try.ntmps27
      go_wp2_with (first | (go_at_call 50; refine (open_any B p g bs 0 _ h).mono ?_; rintro e w' ⟨rfl, hww⟩; subst hww) | (go_at_call 51; refine (wrow_any B p g bs 0 _ v h hB h0 (by omega) hl).mono ?_; rintro e w' ⟨rfl, hw1⟩))
      go_end0
      exact ⟨rfl, by assumption⟩
  · have hr : wnumZ (bs, e) v = (bs, e) := by unfold wnumZ; rw [if_neg he]
    rw [hr]
    have he' : (e == 0) = false := by simpa using he
    clear hr
    go_enter Try.func27, Try.ntmps27
    go_wp2_with (go_at_call 50; refine (open_any B p g bs e _ h).mono ?_; rintro e w' ⟨rfl, hww⟩; subst hww)
    refine bodyPost_ret (results_none Try.results27 _ _ _) rfl ?_
    exact ⟨rfl, WrStep.refl h⟩

theorem foldZ_bd (v : Int) (h0 : -9223372036854775808 ≤ v) (h1 : v < 9223372036854775808) : 0 ≤ foldZ v ∧ foldZ v < 18446744073709551616 := by
  unfold foldZ; split <;> omega

set_option maxRecDepth 100000 in
set_option maxHeartbeats 800000 in
theorem wint_any (B p : Nat) (g : Option Nat) (bs : List Int) (e : Int) (w : World) (v : Int) (h : Wr B w p g bs e) (hB : B ≤ w.heap.size) (hu0 : -9223372036854775808 ≤ v) (hu1 : v < 9223372036854775808) (hl : bs.length ≤ 1000000000) :
    Calls Try.prog 28 #[.pointer (some ⟨p, 0, none⟩), .int .i64 v] w fun x w' => x = .returned (.tuple #[]) ∧ WrStep B p g w w' (wintZ (bs, e) v).1 (wintZ (bs, e) v).2 := by
  by_cases he : e = 0
  · subst he
    have hr : wintZ (bs, 0) v = (bs ++ rowF 10 (foldZ v), 0) := by unfold wintZ; rw [if_pos rfl]
    rw [hr]
    obtain ⟨hf0, hf1⟩ := foldZ_bd v hu0 hu1
    clear hr
    go_enter Try.func28, Try.ntmps28
    go_wp2_with (first | (go_at_call 50; refine (open_any B p g bs 0 _ h).mono ?_; rintro e w' ⟨rfl, hww⟩; subst hww) | (go_at_call 52; refine (fold_any v _ hu0 hu1).mono ?_; rintro e w' ⟨rfl, hww⟩; subst hww) | (go_at_call 51; refine (wrow_any B p g bs 0 _ (foldZ v) h hB hf0 hf1 hl).mono ?_; rintro e w' ⟨rfl, hw1⟩))
    go_end0
    exact ⟨rfl, by assumption⟩
  · have hr : wintZ (bs, e) v = (bs, e) := by unfold wintZ; rw [if_neg he]
    rw [hr]
    have he' : (e == 0) = false := by simpa using he
    clear hr
    go_enter Try.func28, Try.ntmps28
    go_wp2_with (go_at_call 50; refine (open_any B p g bs e _ h).mono ?_; rintro e w' ⟨rfl, hww⟩; subst hww)
    refine bodyPost_ret (results_none Try.results28 _ _ _) rfl ?_
    exact ⟨rfl, WrStep.refl h⟩

set_option maxRecDepth 100000 in
set_option maxHeartbeats 800000 in
theorem wdata_any (B p : Nat) (g : Option Nat) (bs : List Int) (e : Int) (w : World) (h : Wr B w p g bs e) (hl : bs.length ≤ 1000000000) :
    Calls Try.prog 14 #[.pointer (some ⟨p, 0, none⟩)] w fun x w' => x = .returned (.slice (some ⟨w.heap.size, 0, none⟩) bs.length bs.length) ∧ Own w' w.heap.size bs ∧ Below w.heap.size w w' := by
  obtain ⟨v, h1, _, h3⟩ := h
  obtain ⟨c0, c1⟩ := cell_of_pair h1
  have hs := sl_of_owns h3
  clear h1 h3
  go_enter Try.func14, Try.ntmps14
  go_wp2_with (go_at_call 42; refine (clone_any v bs _ hs hl).mono ?_; rintro x w' ⟨rfl, hw1, hw2⟩)
  go_ret
  exact ⟨rfl, by assumption, by assumption⟩

end Go.Proofs.Ytamajeagmkjjbaa
