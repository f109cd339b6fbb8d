import Derived.Test.YtamajeagmkjjbaaR1
namespace Go.Proofs.Ytamajeagmkjjbaa
open Go.RowKit

def fixZ (bs : List Int) (n : Int) : Int × Int × Int := if n < 0 ∨ 8 < n then (0, 0, 1) else if (bs.length : Int) < n then (0, 0, 2) else (leZ (bs.take n.toNat), n, 0)

def leadZ (f : Int) (bs : List Int) (n : Int) : Int × Int × Int := if f = 0 then fixZ bs n else if f = 2 then rowGo 10 1 bs 0 0 else rowGo 9 127 bs 0 0

theorem fixed_tup (v : Value) (bs : List Int) (n : Int) (w : World) (h : Sl w v bs) (ho : Oct bs) (hl : bs.length ≤ 1000000000) :
    Calls Try.prog 61 #[v, .int .i64 n] w fun x w' => w' = w ∧ x = .returned (tup3 (fixZ bs n)) := by
  refine (fixed_any v bs n w h ho hl).mono ?_
  rintro x w' ⟨h1, h2⟩
  refine ⟨h1, h2.trans ?_⟩
  unfold fixZ
  split
  · rfl
  · split <;> rfl

set_option maxRecDepth 100000 in
set_option maxHeartbeats 800000 in
theorem lead_any (f : Int) (v : Value) (bs : List Int) (n : Int) (w : World) (h : Sl w v bs) (ho : Oct bs) (hl : bs.length ≤ 1000000000) :
    Calls Try.prog 60 #[.int .i64 f, v, .int .i64 n] w fun x w' => w' = w ∧ x = .returned (tup3 (leadZ f bs n)) := by
  unfold leadZ
  by_cases h0 : f = 0
  · rw [if_pos h0]
    subst h0
    obtain ⟨a, b, c, hr⟩ : ∃ a b c, fixZ bs n = (a, b, c) := ⟨_, _, _, rfl⟩
    have Hc : Calls Try.prog 61 #[v, .int .i64 n] w fun x w' => w' = w ∧ x = .returned (.tuple #[.int .u64 a, .int .i64 b, .int .i64 c]) := by
      have := fixed_tup v bs n w h ho hl
      rw [hr] at this
      exact this
    rw [hr]
    clear hr
    have HC := hid Hc
    clear Hc
    go_enter Try.func60, Try.ntmps60
    go_wp2_with (go_at_call 61; refine HC.out.mono ?_; rintro x w' ⟨hw, rfl⟩; subst hw)
    go_ret3
    exact ⟨rfl, rfl⟩
  · rw [if_neg h0]
    by_cases h2 : f = 2
    · rw [if_pos h2]
      subst h2
      obtain ⟨a, b, c, hr⟩ : ∃ a b c, rowGo 10 1 bs 0 0 = (a, b, c) := ⟨_, _, _, rfl⟩
      have Hc : Calls Try.prog 62 #[v, .int .i64 10, .int .u8 1] w fun x w' => w' = w ∧ x = .returned (.tuple #[.int .u64 a, .int .i64 b, .int .i64 c]) := by
        have := row_any v bs 10 1 w h ho hl (by omega) (by omega) (by omega) (by omega) (by omega)
        rw [hr] at this
        exact this
      rw [hr]
      clear hr
      have HC := hid Hc
      clear Hc
      go_enter Try.func60, Try.ntmps60
      go_wp2_with (go_at_call 62; refine HC.out.mono ?_; rintro x w' ⟨hw, rfl⟩; subst hw)
      go_ret3
      exact ⟨rfl, rfl⟩
    · rw [if_neg h2]
      obtain ⟨a, b, c, hr⟩ : ∃ a b c, rowGo 9 127 bs 0 0 = (a, b, c) := ⟨_, _, _, rfl⟩
      have Hc : Calls Try.prog 62 #[v, .int .i64 9, .int .u8 127] w fun x w' => w' = w ∧ x = .returned (.tuple #[.int .u64 a, .int .i64 b, .int .i64 c]) := by
        have := row_any v bs 9 127 w h ho hl (by omega) (by omega) (by omega) (by omega) (by omega)
        rw [hr] at this
        exact this
      rw [hr]
      clear hr
      have HC := hid Hc
      clear Hc
      go_enter Try.func60, Try.ntmps60
      go_wp2_with (go_at_call 62; refine HC.out.mono ?_; rintro x w' ⟨hw, rfl⟩; subst hw)
      go_ret3
      exact ⟨rfl, rfl⟩

end Go.Proofs.Ytamajeagmkjjbaa
