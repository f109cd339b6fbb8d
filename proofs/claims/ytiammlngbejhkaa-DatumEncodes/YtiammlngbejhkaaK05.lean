import Derived.Test.YtiammlngbejhkaaK03
import Derived.Test.YtiammlngbejhkaaK04
import Derived.ScopeJumps
import Derived.WalkMore
namespace Go.Proofs.Ytiammlngbejhkaa
open Go.RowKit

/-- All are bytes. -/
def Oct (bs : List Int) : Prop := ∀ x ∈ bs, 0 ≤ x ∧ x < 256

/-- The row of sevens that a list begins with: number, length, error. -/
def rowGo (last : Nat) (top : Int) : List Int → Nat → Int → Int × Int × Int
  | [], _, _ => (0, 0, 2)
  | c :: cs, i, u =>
    if i + 1 = last ∧ top < c then (0, 0, 15)
    else if 128 ≤ c then rowGo last top cs (i + 1) (u + c % 128 * 128 ^ i)
    else if 0 < i ∧ c = 0 then (0, 0, 3)
    else (u + c % 128 * 128 ^ i, (i : Int) + 1, 0)

/-- The number of bytes, the lowest first. -/
def leZ : List Int → Int
  | [] => 0
  | c :: cs => c + 256 * leZ cs

theorem leZ_snoc (l : List Int) (c : Int) : leZ (l ++ [c]) = leZ l + c * 256 ^ l.length := by
  induction l with
  | nil => simp [leZ]
  | cons a l ih =>
    simp only [List.cons_append, leZ, ih, List.length_cons, Int.pow_succ]
    rw [Int.mul_add, Int.mul_comm 256 (c * 256 ^ l.length), Int.mul_assoc, Int.add_assoc]

theorem leZ_bd (l : List Int) (h : Oct l) : 0 ≤ leZ l ∧ leZ l < 256 ^ l.length := by
  induction l with
  | nil => simp [leZ]
  | cons a l ih =>
    have h1 := ih (fun x hx => h x (List.mem_cons_of_mem _ hx))
    have h2 := h a (List.mem_cons_self ..)
    simp only [leZ, List.length_cons, Int.pow_succ]
    omega

theorem take_snoc (l : List Int) (k : Nat) (h : k < l.length) : l.take (k + 1) = l.take k ++ [l[k]] := by
  rw [List.take_succ_eq_append_getElem h]

theorem pow_le8 (k : Nat) (h : k ≤ 8) : (256 : Int) ^ k ≤ 18446744073709551616 := by
  match k, h with
  | 0, _ | 1, _ | 2, _ | 3, _ | 4, _ | 5, _ | 6, _ | 7, _ | 8, _ => decide

/-- One more byte. -/
theorem le_step (u c : Int) (k : Nat) (hk : k < 8) (hu0 : 0 ≤ u) (hu : u < 256 ^ k) (hc0 : 0 ≤ c) (hc : c < 256) :
    bits .or .u64 u (IntKind.u64.wrap (c * 2 ^ (8 * k))) = u + c * 256 ^ k := by
  have e : (2 : Int) ^ (8 * k) = 256 ^ k := by rw [Int.pow_mul]; rfl
  have hp : (0 : Int) < 256 ^ k := Int.pow_pos (by omega)
  have h8 := pow_le8 (k + 1) (by omega)
  rw [Int.pow_succ] at h8
  have hb : c * 256 ^ k ≤ 255 * 256 ^ k := Int.mul_le_mul_of_nonneg_right (by omega) (by omega)
  have hn : 0 ≤ c * 256 ^ k := Int.mul_nonneg hc0 (by omega)
  rw [e, IntKind.wrap_u64, Int.emod_eq_of_lt hn (by omega)]
  refine or_u64 u (c * 256 ^ k) (8 * k) hu0 ?_ hn ?_ ?_ ?_
  · rw [Int.pow_mul]; exact hu
  · rw [Int.pow_mul]; exact Int.mul_emod_left c (256 ^ k)
  · have := pow_le8 k (by omega); omega
  · omega

set_option maxRecDepth 100000 in
set_option maxHeartbeats 800000 in
theorem fixed_any (v : Value) (bs : List Int) (n : Int) (w : World) (h : Sl w v bs) (ho : Oct bs) (hl : bs.length ≤ 1000000000) :
    Calls Try.prog 100 #[v, .int .i64 n] w fun x w' => w' = w ∧ x = .returned (if n < 0 ∨ 8 < n then .tuple #[.int .u64 0, .int .i64 0, .int .i64 1] else if (bs.length : Int) < n then .tuple #[.int .u64 0, .int .i64 0, .int .i64 2] else .tuple #[.int .u64 (leZ (bs.take n.toNat)), .int .i64 n, .int .i64 0]) := by
  obtain ⟨ao, cap, rfl, hc, hx⟩ := h
  by_cases hn : n < 0 ∨ 8 < n
  · rw [if_pos hn]
    rcases hn with hn | hn
    · clear hx
      go_enter Try.func100, Try.ntmps100
      go_wp2
      go_ret3
      exact ⟨rfl, rfl⟩
    · have hn' : ¬ n < 0 := by omega
      clear hx
      go_enter Try.func100, Try.ntmps100
      go_wp2
      go_ret3
      exact ⟨rfl, rfl⟩
  · rw [if_neg hn]
    obtain ⟨k, rfl⟩ := Int.eq_ofNat_of_zero_le (show 0 ≤ n by omega)
    have hk8 : k ≤ 8 := by omega
    clear hn
    by_cases hs : (bs.length : Int) < (k : Int)
    · rw [if_pos hs]
      clear hx
      go_enter Try.func100, Try.ntmps100
      go_wp2
      go_ret3
      exact ⟨rfl, rfl⟩
    · rw [if_neg hs, Int.toNat_natCast]
      have Hx : Hid _ := hx
      clear hx
      go_enter Try.func100, Try.ntmps100
      go_wp2
      go_loop [7, 8, 20] (fun u _ i => ∃ j : Nat, j ≤ k ∧ i = .int .i64 j ∧ u = .int .u64 (leZ (bs.take j))) (fun _ _ i => k - (intOf i).toNat)
      case atStart => exact ⟨0, Nat.zero_le _, rfl, rfl⟩
      case round =>
        obtain ⟨j, hj, rfl, rfl⟩ := hrel
        by_cases hlt : j < k
        · obtain ⟨b, off, rfl, hcell⟩ := Hx.out (by intro e; subst e; simp at hs; omega)
          have hjl : j < bs.length := by omega
          have hcj := hcell j bs[j] (by simp [hjl])
          have hb := ho bs[j] (List.getElem_mem hjl)
          have ht := leZ_bd (bs.take j) (fun x hx => ho x (List.mem_of_mem_take hx))
          have hlen : (bs.take j).length = j := by simp; omega
          rw [hlen] at ht
          have hst := le_step (leZ (bs.take j)) bs[j] j (by omega) ht.1 ht.2 hb.1 hb.2
          have hsn : leZ (bs.take (j + 1)) = leZ (bs.take j) + bs[j] * 256 ^ j := by rw [take_snoc bs j hjl, leZ_snoc, hlen]
          obtain ⟨c, hc'⟩ : ∃ c, c = bs[j] := ⟨_, rfl⟩
          rw [← hc'] at hcj hb hst hsn
          obtain ⟨hb0, hb1⟩ := hb
          have Hs : Hid _ := hsn
          have Hst : Hid _ := hst
          have hw8 : IntKind.i64.wrap (8 * (j : Int)) = 8 * (j : Int) := by rw [IntKind.wrap_i64]; omega
          clear hc' hcell hsn hst ht hlen
          go_wp2
          go_round
          case rel => exact ⟨j + 1, by omega, by go_num, by rw [Hs.out, Hst.out]⟩
          case measure => simp [intOf]; omega
        · obtain rfl : j = k := by omega
          go_wp2
          go_ret3
          exact ⟨rfl, rfl⟩

theorem pow_le9 (k : Nat) (h : k ≤ 9) : (128 : Int) ^ k ≤ 9223372036854775808 := by
  match k, h with
  | 0, _ | 1, _ | 2, _ | 3, _ | 4, _ | 5, _ | 6, _ | 7, _ | 8, _ | 9, _ => decide

/-- One more seven. -/
theorem seven_step (u c : Int) (k : Nat) (hk : k ≤ 9) (hu0 : 0 ≤ u) (hu : u < 128 ^ k) (hc0 : 0 ≤ c) (hc : c < 128) (h9 : k = 9 → c ≤ 1) :
    bits .or .u64 u (IntKind.u64.wrap (c * 2 ^ (7 * k))) = u + c * 128 ^ k := by
  have e : (2 : Int) ^ (7 * k) = 128 ^ k := by rw [Int.pow_mul]; rfl
  have hp : (0 : Int) < 128 ^ k := Int.pow_pos (by omega)
  have hn : 0 ≤ c * 128 ^ k := Int.mul_nonneg hc0 (by omega)
  have hlt : c * 128 ^ k < 18446744073709551616 := by
    by_cases h : k = 9
    · subst h
      have := h9 rfl
      have h1 : c * 128 ^ 9 ≤ 1 * 128 ^ 9 := Int.mul_le_mul_of_nonneg_right this (by omega)
      omega
    · have h8 := pow_le9 (k + 1) (by omega)
      rw [Int.pow_succ] at h8
      have hb : c * 128 ^ k ≤ 127 * 128 ^ k := Int.mul_le_mul_of_nonneg_right (by omega) (by omega)
      omega
  rw [e, IntKind.wrap_u64, Int.emod_eq_of_lt hn hlt]
  refine or_u64 u (c * 128 ^ k) (7 * k) hu0 ?_ hn ?_ ?_ hlt
  · rw [Int.pow_mul]; exact hu
  · rw [Int.pow_mul]; exact Int.mul_emod_left c (128 ^ k)
  · have := pow_le9 k hk; omega

theorem seven_bd (u c : Int) (k : Nat) (hu0 : 0 ≤ u) (hu : u < 128 ^ k) (hc0 : 0 ≤ c) (hc : c < 128) : 0 ≤ u + c * 128 ^ k ∧ u + c * 128 ^ k < 128 ^ (k + 1) := by
  have hp : (0 : Int) < 128 ^ k := Int.pow_pos (by omega)
  have hn : 0 ≤ c * 128 ^ k := Int.mul_nonneg hc0 (by omega)
  have hb : c * 128 ^ k ≤ 127 * 128 ^ k := Int.mul_le_mul_of_nonneg_right (by omega) (by omega)
  rw [Int.pow_succ]
  omega

/-- A tuple of three. -/
def tup3 (x : Int × Int × Int) : Value := .tuple #[.int .u64 x.1, .int .i64 x.2.1, .int .i64 x.2.2]

theorem rowGo_at (last : Nat) (top : Int) (bs : List Int) (j : Nat) (u : Int) (h : j < bs.length) :
    rowGo last top (bs.drop j) j u = if j + 1 = last ∧ top < bs[j] then (0, 0, 15)
    else if 128 ≤ bs[j] then rowGo last top (bs.drop (j + 1)) (j + 1) (u + bs[j] % 128 * 128 ^ j)
    else if 0 < j ∧ bs[j] = 0 then (0, 0, 3)
    else (u + bs[j] % 128 * 128 ^ j, (j : Int) + 1, 0) := by
  rw [List.drop_eq_getElem_cons h, rowGo]

set_option maxRecDepth 100000 in
set_option maxHeartbeats 1600000 in
theorem row_any (v : Value) (bs : List Int) (last : Nat) (top : Int) (w : World) (h : Sl w v bs) (ho : Oct bs) (hl : bs.length ≤ 1000000000) (hl1 : 1 ≤ last) (hl2 : last ≤ 10) (ht0 : 0 ≤ top) (ht : top < 128) (ht1 : last = 10 → top ≤ 1) :
    Calls Try.prog 101 #[v, .int .i64 last, .int .u8 top] w fun x w' => w' = w ∧ x = .returned (tup3 (rowGo last top bs 0 0)) := by
  obtain ⟨ao, cap, rfl, hc, hx⟩ := h
  have Hx : Hid _ := hx
  clear hx
  go_enter Try.func101, Try.ntmps101
  go_wp2
  go_loop [9, 10, 11, 14] (fun u _ _ i => ∃ (j : Nat) (y : Int), j ≤ bs.length ∧ j < last ∧ i = .int .i64 j ∧ u = .int .u64 y ∧ 0 ≤ y ∧ Hid (y < 128 ^ j) ∧ Hid (rowGo last top (bs.drop j) j y = rowGo last top bs 0 0)) (fun _ _ _ i => bs.length - (intOf i).toNat)
  case atStart => exact ⟨0, 0, Nat.zero_le _, by omega, rfl, rfl, by omega, (show (0 : Int) < 128 ^ 0 by decide), (show _ = _ from rfl)⟩
  case round =>
    obtain ⟨j, y, hj, hjl, rfl, rfl, hy0, hy1, hgo⟩ := hrel
    by_cases hlt : j < bs.length
    · obtain ⟨b, off, rfl, hcell⟩ := Hx.out (by intro e; subst e; simp at hlt)
      have hcj := hcell j bs[j] (by simp [hlt])
      have hb := ho bs[j] (List.getElem_mem hlt)
      have hat := rowGo_at last top bs j y hlt
      rw [hgo.out] at hat
      obtain ⟨c, hc'⟩ : ∃ c, c = bs[j] := ⟨_, rfl⟩
      rw [← hc'] at hcj hb hat
      obtain ⟨hb0, hb1⟩ := hb
      have Ha : Hid _ := hat
      have a1 := and127_u8 c hb0 hb1
      have a2 := and128_u8 c hb0 hb1
      have hw8 : IntKind.i64.wrap (7 * (j : Int)) = 7 * (j : Int) := by rw [IntKind.wrap_i64]; omega
      clear hc' hcell hat hgo
      by_cases hr : j + 1 = last ∧ top < c
      · have hres : rowGo last top bs 0 0 = (0, 0, 15) := by rw [Ha.out, if_pos hr]
        have Hres : Hid _ := hres
        obtain ⟨hr1, hr2⟩ := hr
        have hr3 : (j : Int) + 1 = (last : Int) := by omega
        clear hres
        go_wp2
        go_ret3
        exact ⟨rfl, by rw [Hres.out]; rfl⟩
      · by_cases hc8 : 128 ≤ c
        · have hst : Hid _ := seven_step y (c % 128) j (by omega) hy0 hy1 (by omega) (by omega) (by omega)
          have hbd : Hid _ := seven_bd y (c % 128) j hy0 hy1 (by omega) (by omega)
          have hres : rowGo last top bs 0 0 = rowGo last top (bs.drop (j + 1)) (j + 1) (y + c % 128 * 128 ^ j) := by rw [Ha.out, if_neg hr, if_pos hc8]
          have Hres : Hid _ := hres
          have a3 : c / 128 * 128 = 128 := by omega
          clear hres
          go_wp2
          go_round
          case rel => exact ⟨j + 1, y + c % 128 * 128 ^ j, by omega, by omega, by go_num, by rw [hst.out], hbd.out.1, hbd.out.2, (show _ = _ from Hres.out.symm)⟩
          case measure => simp [intOf]; omega
        · have hst : Hid _ := seven_step y (c % 128) j (by omega) hy0 hy1 (by omega) (by omega) (by omega)
          have a3 : c / 128 * 128 = 0 := by omega
          by_cases hz : 0 < j ∧ c = 0
          · have hres : rowGo last top bs 0 0 = (0, 0, 3) := by rw [Ha.out, if_neg hr, if_neg hc8, if_pos hz]
            have Hres : Hid _ := hres
            obtain ⟨hz1, hz2⟩ := hz
            clear hres
            by_cases hr1 : (j : Int) + 1 = (last : Int)
            · go_wp2
              go_ret3
              exact ⟨rfl, by rw [Hres.out]; rfl⟩
            · go_wp2
              go_ret3
              exact ⟨rfl, by rw [Hres.out]; rfl⟩
          · have hres : rowGo last top bs 0 0 = (y + c % 128 * 128 ^ j, (j : Int) + 1, 0) := by rw [Ha.out, if_neg hr, if_neg hc8, if_neg hz]
            have Hres : Hid _ := hres
            clear hres
            by_cases hr1 : (j : Int) + 1 = (last : Int)
            · by_cases hj0 : 0 < j
              · have hz2 : ¬ c = 0 := by omega
                go_wp2
                go_ret3
                exact ⟨rfl, by rw [Hres.out, ← hst.out, hr1]; rfl⟩
              · go_wp2
                go_ret3
                exact ⟨rfl, by rw [Hres.out, ← hst.out, hr1]; rfl⟩
            · by_cases hj0 : 0 < j
              · have hz2 : ¬ c = 0 := by omega
                go_wp2
                go_ret3
                exact ⟨rfl, by rw [Hres.out, ← hst.out]; rfl⟩
              · go_wp2
                go_ret3
                exact ⟨rfl, by rw [Hres.out, ← hst.out]; rfl⟩
    · have hres : rowGo last top bs 0 0 = (0, 0, 2) := by
        rw [← hgo.out, List.drop_eq_nil_of_le (by omega)]; rfl
      have Hres : Hid _ := hres
      clear hres hgo
      go_wp2
      go_ret3
      exact ⟨rfl, by rw [Hres.out]; rfl⟩

end Go.Proofs.Ytiammlngbejhkaa

namespace Go.Proofs.Ytiammlngbejhkaa
open Go.RowKit

def fixZ (bs : List Int) (n : Int) : Int × Int × Int := if n < 0 ∨ 8 < n then (0, 0, 1) else if (bs.length : Int) < n then (0, 0, 2) else (leZ (bs.take n.toNat), n, 0)

def leadZ (f : Int) (bs : List Int) (n : Int) : Int × Int × Int := if f = 0 then fixZ bs n else if f = 2 then rowGo 10 1 bs 0 0 else rowGo 9 127 bs 0 0

theorem fixed_tup (v : Value) (bs : List Int) (n : Int) (w : World) (h : Sl w v bs) (ho : Oct bs) (hl : bs.length ≤ 1000000000) :
    Calls Try.prog 100 #[v, .int .i64 n] w fun x w' => w' = w ∧ x = .returned (tup3 (fixZ bs n)) := by
  refine (fixed_any v bs n w h ho hl).mono ?_
  rintro x w' ⟨h1, h2⟩
  refine ⟨h1, h2.trans ?_⟩
  unfold fixZ
  split
  · rfl
  · split <;> rfl

set_option maxRecDepth 100000 in
set_option maxHeartbeats 800000 in
theorem lead_any (f : Int) (v : Value) (bs : List Int) (n : Int) (w : World) (h : Sl w v bs) (ho : Oct bs) (hl : bs.length ≤ 1000000000) :
    Calls Try.prog 99 #[.int .i64 f, v, .int .i64 n] w fun x w' => w' = w ∧ x = .returned (tup3 (leadZ f bs n)) := by
  unfold leadZ
  by_cases h0 : f = 0
  · rw [if_pos h0]
    subst h0
    obtain ⟨a, b, c, hr⟩ : ∃ a b c, fixZ bs n = (a, b, c) := ⟨_, _, _, rfl⟩
    have Hc : Calls Try.prog 100 #[v, .int .i64 n] w fun x w' => w' = w ∧ x = .returned (.tuple #[.int .u64 a, .int .i64 b, .int .i64 c]) := by
      have := fixed_tup v bs n w h ho hl
      rw [hr] at this
      exact this
    rw [hr]
    clear hr
    have HC := hid Hc
    clear Hc
    go_enter Try.func99, Try.ntmps99
    go_wp2_with (go_at_call 100; refine HC.out.mono ?_; rintro x w' ⟨hw, rfl⟩; subst hw)
    go_ret3
    exact ⟨rfl, rfl⟩
  · rw [if_neg h0]
    by_cases h2 : f = 2
    · rw [if_pos h2]
      subst h2
      obtain ⟨a, b, c, hr⟩ : ∃ a b c, rowGo 10 1 bs 0 0 = (a, b, c) := ⟨_, _, _, rfl⟩
      have Hc : Calls Try.prog 101 #[v, .int .i64 10, .int .u8 1] w fun x w' => w' = w ∧ x = .returned (.tuple #[.int .u64 a, .int .i64 b, .int .i64 c]) := by
        have := row_any v bs 10 1 w h ho hl (by omega) (by omega) (by omega) (by omega) (by omega)
        rw [hr] at this
        exact this
      rw [hr]
      clear hr
      have HC := hid Hc
      clear Hc
      go_enter Try.func99, Try.ntmps99
      go_wp2_with (go_at_call 101; refine HC.out.mono ?_; rintro x w' ⟨hw, rfl⟩; subst hw)
      go_ret3
      exact ⟨rfl, rfl⟩
    · rw [if_neg h2]
      obtain ⟨a, b, c, hr⟩ : ∃ a b c, rowGo 9 127 bs 0 0 = (a, b, c) := ⟨_, _, _, rfl⟩
      have Hc : Calls Try.prog 101 #[v, .int .i64 9, .int .u8 127] w fun x w' => w' = w ∧ x = .returned (.tuple #[.int .u64 a, .int .i64 b, .int .i64 c]) := by
        have := row_any v bs 9 127 w h ho hl (by omega) (by omega) (by omega) (by omega) (by omega)
        rw [hr] at this
        exact this
      rw [hr]
      clear hr
      have HC := hid Hc
      clear Hc
      go_enter Try.func99, Try.ntmps99
      go_wp2_with (go_at_call 101; refine HC.out.mono ?_; rintro x w' ⟨hw, rfl⟩; subst hw)
      go_ret3
      exact ⟨rfl, rfl⟩

end Go.Proofs.Ytiammlngbejhkaa

namespace Go.Proofs.Ytiammlngbejhkaa
open Go.RowKit

/-- A Reader at block p, its bytes in block g. -/
def Rd (w : World) (p : Nat) (g : Option Nat) (bs : List Int) (at' : Nat) (e : Int) : Prop :=
  ∃ v, w.heap[p]? = some (.cells #[v, .int .i64 at', .int .i64 e] 119 (0, 0)) ∧ v.ownBlock = g ∧ Sl w v bs ∧ g ≠ some p ∧ Oct bs ∧ at' ≤ bs.length ∧ bs.length ≤ 1000000000

theorem cell_of_three {w : World} {p : Nat} {a b c : Value} {t : TypeId} (h : w.heap[p]? = some (.cells #[a, b, c] t (0, 0))) : w.cell? ⟨p, 0, none⟩ = some a ∧ w.cell? ⟨p, 1, none⟩ = some b ∧ w.cell? ⟨p, 2, none⟩ = some c := by
  refine ⟨?_, ?_, ?_⟩
  · rw [cell_of_row w p 0 _ t (0, 0) h]; rfl
  · rw [cell_of_row w p 1 _ t (0, 0) h]; rfl
  · rw [cell_of_row w p 2 _ t (0, 0) h]; rfl

/-- A scope whose one label is jumped to at most once. -/
theorem wp_scope_once {P : Program} {a : Act} {w : World} {Q : Exit → Act → World → Prop} {c rest : Code} (l : Nat) (hf : findLabel c l = some rest)
    (first : c.wp P (Exit.jump l (fun a' w' => rest.wp P (Exit.noGoto Q) a' w') Q) a w) : (Code.scope c).wp P Q a w := by
  refine wp_scope_jumps l (fun a' w' => rest.wp P (Exit.noGoto Q) a' w') (fun _ _ => 0) hf first ?_
  intro a' w' h
  refine wp_mono h ?_
  intro e a2 w2 hq
  cases e with
  | goto l' => exact hq.elim
  | normal => exact hq
  | exit id => exact hq
  | ret => exact hq
  | panic ch => exact hq
  | outgrown => exact hq

set_option maxRecDepth 100000 in
set_option maxHeartbeats 800000 in
theorem take_stopped (p : Nat) (f n e : Int) (w : World) (c2 : w.cell? ⟨p, 2, none⟩ = some (.int .i64 e)) (he : (e == 0) = false) :
    Calls Try.prog 90 #[.pointer (some ⟨p, 0, none⟩), .int .i64 f, .int .i64 n] w fun x w' => w' = w ∧ x = .returned (.tuple #[.int .u64 0, .string ⟨#[]⟩]) := by
  have he2 : (e != 0) = true := by simpa using he
  go_enter Try.func90, Try.ntmps90
  go_wp2
  refine wp_scope_once 0 rfl ?_
  go_wp2
  simp only [Exit.jump]
  go_ret2
  exact ⟨rfl, rfl⟩

set_option maxRecDepth 100000 in
set_option maxHeartbeats 800000 in
theorem take_nil (f n : Int) (w : World) :
    Calls Try.prog 90 #[.pointer none, .int .i64 f, .int .i64 n] w fun x w' => w' = w ∧ x = .returned (.tuple #[.int .u64 0, .string ⟨#[]⟩]) := by
  go_enter Try.func90, Try.ntmps90
  go_wp2
  refine wp_scope_once 0 rfl ?_
  go_wp2
  simp only [Exit.jump]
  go_ret2
  exact ⟨rfl, rfl⟩

set_option maxRecDepth 100000 in
set_option maxHeartbeats 800000 in
theorem take_lead_err (p : Nat) (v rv : Value) (at' : Nat) (f n u sz e1 : Int) (w : World) (c0 : w.cell? ⟨p, 0, none⟩ = some v) (c1 : w.cell? ⟨p, 1, none⟩ = some (.int .i64 at')) (c2 : w.cell? ⟨p, 2, none⟩ = some (.int .i64 0))
    (f2 : w.frozen? ⟨p, 2, none⟩ = false) (hsl : ∀ wx : World, (Instr.slice 40 v (some (.int .i64 at')) none none).run Try.prog wx = .ok rv wx)
    (hc : ∀ nq : Nat, Calls Try.prog 99 #[.int .i64 f, rv, .int .i64 n] (w.drewN nq) fun x w' => w' = w.drewN nq ∧ x = .returned (.tuple #[.int .u64 u, .int .i64 sz, .int .i64 e1]))
    (he : e1 ≠ 0) :
    Calls Try.prog 90 #[.pointer (some ⟨p, 0, none⟩), .int .i64 f, .int .i64 n] w fun x w' => (∃ nq, w' = (w.drewN nq).setCell ⟨p, 2, none⟩ (.int .i64 e1)) ∧ x = .returned (.tuple #[.int .u64 0, .string ⟨#[]⟩]) := by
  have he2 : (e1 != 0) = true := by simpa using he
  have HC := hid hc
  clear hc he
  go_enter Try.func90, Try.ntmps90
  go_wp2
  refine wp_scope_once 0 rfl ?_
  go_wp2
  go_quiet (fail)
  have hcw := hid (HC.out nq)
  clear HC
  go_wp2_with (go_at_call 99; refine hcw.out.mono ?_; rintro x w' ⟨hw, rfl⟩; subst hw)
  go_step3
  refine ⟨rfl, ?_⟩
  go_wp2
  rw [Exit.noGoto_ret]
  go_ret2
  exact ⟨⟨nq, rfl⟩, rfl⟩

set_option maxRecDepth 100000 in
set_option maxHeartbeats 800000 in
theorem take_plain (p : Nat) (v rv : Value) (at' : Nat) (f n u sz e1 : Int) (w : World) (c0 : w.cell? ⟨p, 0, none⟩ = some v) (c1 : w.cell? ⟨p, 1, none⟩ = some (.int .i64 at')) (c2 : w.cell? ⟨p, 2, none⟩ = some (.int .i64 0))
    (f1 : w.frozen? ⟨p, 1, none⟩ = false) (hsl : ∀ wx : World, (Instr.slice 40 v (some (.int .i64 at')) none none).run Try.prog wx = .ok rv wx)
    (hc : ∀ nq : Nat, Calls Try.prog 99 #[.int .i64 f, rv, .int .i64 n] (w.drewN nq) fun x w' => w' = w.drewN nq ∧ x = .returned (.tuple #[.int .u64 u, .int .i64 sz, .int .i64 e1]))
    (he : e1 = 0) (hf : f ≠ 3) (hsz0 : 0 ≤ sz) (hsz1 : (at' : Int) + sz ≤ 1000000000) :
    Calls Try.prog 90 #[.pointer (some ⟨p, 0, none⟩), .int .i64 f, .int .i64 n] w fun x w' => (∃ nq, w' = (w.drewN nq).setCell ⟨p, 1, none⟩ (.int .i64 ((at' : Int) + sz))) ∧ x = .returned (.tuple #[.int .u64 u, .string ⟨#[]⟩]) := by
  subst he
  have hf2 : (f == 3) = false := by simpa using hf
  have HC := hid hc
  clear hc hf
  go_enter Try.func90, Try.ntmps90
  go_wp2
  refine wp_scope_once 0 rfl ?_
  go_wp2
  go_quiet (fail)
  have hcw := hid (HC.out nq)
  clear HC
  go_wp2_with (go_at_call 99; refine hcw.out.mono ?_; rintro x w' ⟨hw, rfl⟩; subst hw)
  simp only [Exit.jump]
  go_ret2
  exact ⟨⟨nq, rfl⟩, rfl⟩

set_option maxRecDepth 100000 in
set_option maxHeartbeats 800000 in
theorem take_text_long (p : Nat) (v rv : Value) (at' : Nat) (n u sz : Int) (w : World) (c0 : w.cell? ⟨p, 0, none⟩ = some v) (c1 : w.cell? ⟨p, 1, none⟩ = some (.int .i64 at')) (c2 : w.cell? ⟨p, 2, none⟩ = some (.int .i64 0))
    (f2 : w.frozen? ⟨p, 2, none⟩ = false) (hsl : ∀ wx : World, (Instr.slice 40 v (some (.int .i64 at')) none none).run Try.prog wx = .ok rv wx)
    (hc : ∀ nq : Nat, Calls Try.prog 99 #[.int .i64 3, rv, .int .i64 n] (w.drewN nq) fun x w' => w' = w.drewN nq ∧ x = .returned (.tuple #[.int .u64 u, .int .i64 sz, .int .i64 0]))
    (m : Nat) (_hlen : ∀ wx : World, (Builtin.len_ #[40] 3 #[rv]).run Try.prog wx = .ok (.int .i64 m) wx) (hu0 : 0 ≤ u) (hu1 : u < 9223372036854775808) (hn0 : -9223372036854775808 ≤ n) (hn1 : n < 9223372036854775808) (_hsz0 : 0 ≤ sz) (_hsz1 : sz ≤ m) (_hm : (at' : Int) + m ≤ 1000000000) (hlong : max n 0 < u) :
    Calls Try.prog 90 #[.pointer (some ⟨p, 0, none⟩), .int .i64 3, .int .i64 n] w fun x w' => (∃ nq, w' = (w.drewN nq).setCell ⟨p, 2, none⟩ (.int .i64 4)) ∧ x = .returned (.tuple #[.int .u64 0, .string ⟨#[]⟩]) := by
  have HC := hid hc
  clear hc
  by_cases hn : 0 ≤ n
  · have hx : n < u := by omega
    clear hlong
    go_enter Try.func90, Try.ntmps90
    go_wp2
    refine wp_scope_once 0 rfl ?_
    go_wp2
    go_quiet (fail)
    have hcw := hid (HC.out nq)
    clear HC
    go_wp2_with (go_at_call 99; refine hcw.out.mono ?_; rintro x w' ⟨hw, rfl⟩; subst hw)
    go_step3
    refine ⟨rfl, ?_⟩
    go_wp2
    rw [Exit.noGoto_ret]
    go_ret2
    exact ⟨⟨nq, rfl⟩, rfl⟩
  · have hx : 0 < u := by omega
    have hx2 : n < 0 := by omega
    clear hlong hn
    go_enter Try.func90, Try.ntmps90
    go_wp2
    refine wp_scope_once 0 rfl ?_
    go_wp2
    go_quiet (fail)
    have hcw := hid (HC.out nq)
    clear HC
    go_wp2_with (go_at_call 99; refine hcw.out.mono ?_; rintro x w' ⟨hw, rfl⟩; subst hw)
    go_step3
    refine ⟨rfl, ?_⟩
    go_wp2
    rw [Exit.noGoto_ret]
    go_ret2
    exact ⟨⟨nq, rfl⟩, rfl⟩

set_option maxRecDepth 100000 in
set_option maxHeartbeats 800000 in
theorem take_text_short (p : Nat) (v rv : Value) (at' : Nat) (n u sz : Int) (w : World) (c0 : w.cell? ⟨p, 0, none⟩ = some v) (c1 : w.cell? ⟨p, 1, none⟩ = some (.int .i64 at')) (c2 : w.cell? ⟨p, 2, none⟩ = some (.int .i64 0))
    (f2 : w.frozen? ⟨p, 2, none⟩ = false) (hsl : ∀ wx : World, (Instr.slice 40 v (some (.int .i64 at')) none none).run Try.prog wx = .ok rv wx)
    (hc : ∀ nq : Nat, Calls Try.prog 99 #[.int .i64 3, rv, .int .i64 n] (w.drewN nq) fun x w' => w' = w.drewN nq ∧ x = .returned (.tuple #[.int .u64 u, .int .i64 sz, .int .i64 0]))
    (m : Nat) (hlen : ∀ wx : World, (Builtin.len_ #[40] 3 #[rv]).run Try.prog wx = .ok (.int .i64 m) wx) (_hu0 : 0 ≤ u) (_hu1 : u < 9223372036854775808) (hn0 : -9223372036854775808 ≤ n) (hn1 : n < 9223372036854775808) (hsz0 : 0 ≤ sz) (hsz1 : sz ≤ m) (hm : (at' : Int) + m ≤ 1000000000) (hlong : u ≤ max n 0) (hsh : (m : Int) - sz < u) :
    Calls Try.prog 90 #[.pointer (some ⟨p, 0, none⟩), .int .i64 3, .int .i64 n] w fun x w' => (∃ nq, w' = (w.drewN nq).setCell ⟨p, 2, none⟩ (.int .i64 2)) ∧ x = .returned (.tuple #[.int .u64 0, .string ⟨#[]⟩]) := by
  have HC := hid hc
  clear hc
  by_cases hn : 0 ≤ n
  · have hx : u ≤ n := by omega
    clear hlong
    go_enter Try.func90, Try.ntmps90
    go_wp2
    refine wp_scope_once 0 rfl ?_
    go_wp2
    go_quiet (fail)
    have hcw := hid (HC.out nq)
    clear HC
    go_wp2_with (go_at_call 99; refine hcw.out.mono ?_; rintro x w' ⟨hw, rfl⟩; subst hw)
    go_step3
    refine ⟨rfl, ?_⟩
    go_wp2
    rw [Exit.noGoto_ret]
    go_ret2
    exact ⟨⟨nq, rfl⟩, rfl⟩
  · exfalso; omega

set_option maxRecDepth 100000 in
set_option maxHeartbeats 800000 in
theorem take_text_ok (p : Nat) (v rv : Value) (at' : Nat) (n u sz : Int) (w : World) (c0 : w.cell? ⟨p, 0, none⟩ = some v) (c1 : w.cell? ⟨p, 1, none⟩ = some (.int .i64 at')) (c2 : w.cell? ⟨p, 2, none⟩ = some (.int .i64 0))
    (f1 : w.frozen? ⟨p, 1, none⟩ = false) (hsl : ∀ wx : World, (Instr.slice 40 v (some (.int .i64 at')) none none).run Try.prog wx = .ok rv wx)
    (hc : ∀ nq : Nat, Calls Try.prog 99 #[.int .i64 3, rv, .int .i64 n] (w.drewN nq) fun x w' => w' = w.drewN nq ∧ x = .returned (.tuple #[.int .u64 u, .int .i64 sz, .int .i64 0]))
    (m : Nat) (hlen : ∀ wx : World, (Builtin.len_ #[40] 3 #[rv]).run Try.prog wx = .ok (.int .i64 m) wx) (hu0 : 0 ≤ u) (hu1 : u < 9223372036854775808) (hn0 : -9223372036854775808 ≤ n) (hn1 : n < 9223372036854775808) (hsz0 : 0 ≤ sz) (hsz1 : sz ≤ m) (hm : (at' : Int) + m ≤ 1000000000) (hlong : u ≤ max n 0) (hsh : u ≤ (m : Int) - sz) (rv2 : Value) (s : ByteArray) (hsl2 : ∀ wx : World, (Instr.slice 40 rv (some (.int .i64 sz)) (some (.int .i64 (sz + u))) none).run Try.prog wx = .ok rv2 wx) (hstr : ∀ nq : Nat, (convert 40 9 rv2).run Try.prog (w.drewN nq) = .ok (.string s) (w.drewN nq)) :
    Calls Try.prog 90 #[.pointer (some ⟨p, 0, none⟩), .int .i64 3, .int .i64 n] w fun x w' => (∃ nq, w' = (w.drewN nq).setCell ⟨p, 1, none⟩ (.int .i64 ((at' : Int) + (sz + u)))) ∧ x = .returned (.tuple #[.int .u64 u, .string s]) := by
  have HC := hid hc
  clear hc
  by_cases hn : 0 ≤ n
  · have hx : u ≤ n := by omega
    clear hlong
    go_enter Try.func90, Try.ntmps90
    go_wp2
    refine wp_scope_once 0 rfl ?_
    go_wp2
    go_quiet (fail)
    have hcw := hid (HC.out nq)
    have hst := hstr nq
    clear HC
    go_wp2_with (go_at_call 99; refine hcw.out.mono ?_; rintro x w' ⟨hw, rfl⟩; subst hw)
    simp only [Exit.jump]
    go_ret2
    exact ⟨⟨nq, rfl⟩, rfl⟩
  · have hx2 : n < 0 := by omega
    obtain rfl : u = 0 := by omega
    simp only [Int.add_zero] at hsl2 ⊢
    clear hlong hn hu0 hu1
    go_enter Try.func90, Try.ntmps90
    go_wp2
    refine wp_scope_once 0 rfl ?_
    go_wp2
    go_quiet (fail)
    have hcw := hid (HC.out nq)
    have hst := hstr nq
    clear HC
    go_wp2_with (go_at_call 99; refine hcw.out.mono ?_; rintro x w' ⟨hw, rfl⟩; subst hw)
    simp only [Exit.jump]
    go_ret2
    exact ⟨⟨nq, rfl⟩, rfl⟩

end Go.Proofs.Ytiammlngbejhkaa
