import Derived.Test.YtiammlngbejhkaaK02
import Derived.ScopeJumps
import Derived.WalkMore
namespace Go.Proofs.Ytiammlngbejhkaa
open Go.RowKit

/-- All are bytes. -/
def Oct (bs : List Int) : Prop := ∀ x ∈ bs, 0 ≤ x ∧ x < 256

/-- The row of sevens that a list begins with: number, length, error. -/
def rowGo (last : Nat) (top : Int) : List Int → Nat → Int → Int × Int × Int
  | [], _, _ => (0, 0, 2)
  | c :: cs, i, u =>
    if i + 1 = last ∧ top < c then (0, 0, 15)
    else if 128 ≤ c then rowGo last top cs (i + 1) (u + c % 128 * 128 ^ i)
    else if 0 < i ∧ c = 0 then (0, 0, 3)
    else (u + c % 128 * 128 ^ i, (i : Int) + 1, 0)

/-- The number of bytes, the lowest first. -/
def leZ : List Int → Int
  | [] => 0
  | c :: cs => c + 256 * leZ cs

theorem leZ_snoc (l : List Int) (c : Int) : leZ (l ++ [c]) = leZ l + c * 256 ^ l.length := by
  induction l with
  | nil => simp [leZ]
  | cons a l ih =>
    simp only [List.cons_append, leZ, ih, List.length_cons, Int.pow_succ]
    rw [Int.mul_add, Int.mul_comm 256 (c * 256 ^ l.length), Int.mul_assoc, Int.add_assoc]

theorem leZ_bd (l : List Int) (h : Oct l) : 0 ≤ leZ l ∧ leZ l < 256 ^ l.length := by
  induction l with
  | nil => simp [leZ]
  | cons a l ih =>
    have h1 := ih (fun x hx => h x (List.mem_cons_of_mem _ hx))
    have h2 := h a (List.mem_cons_self ..)
    simp only [leZ, List.length_cons, Int.pow_succ]
    omega

theorem take_snoc (l : List Int) (k : Nat) (h : k < l.length) : l.take (k + 1) = l.take k ++ [l[k]] := by
  rw [List.take_succ_eq_append_getElem h]

theorem pow_le8 (k : Nat) (h : k ≤ 8) : (256 : Int) ^ k ≤ 18446744073709551616 := by
  match k, h with
  | 0, _ | 1, _ | 2, _ | 3, _ | 4, _ | 5, _ | 6, _ | 7, _ | 8, _ => decide

/-- One more byte. -/
theorem le_step (u c : Int) (k : Nat) (hk : k < 8) (hu0 : 0 ≤ u) (hu : u < 256 ^ k) (hc0 : 0 ≤ c) (hc : c < 256) :
    bits .or .u64 u (IntKind.u64.wrap (c * 2 ^ (8 * k))) = u + c * 256 ^ k := by
  have e : (2 : Int) ^ (8 * k) = 256 ^ k := by rw [Int.pow_mul]; rfl
  have hp : (0 : Int) < 256 ^ k := Int.pow_pos (by omega)
  have h8 := pow_le8 (k + 1) (by omega)
  rw [Int.pow_succ] at h8
  have hb : c * 256 ^ k ≤ 255 * 256 ^ k := Int.mul_le_mul_of_nonneg_right (by omega) (by omega)
  have hn : 0 ≤ c * 256 ^ k := Int.mul_nonneg hc0 (by omega)
  rw [e, IntKind.wrap_u64, Int.emod_eq_of_lt hn (by omega)]
  refine or_u64 u (c * 256 ^ k) (8 * k) hu0 ?_ hn ?_ ?_ ?_
  · rw [Int.pow_mul]; exact hu
  · rw [Int.pow_mul]; exact Int.mul_emod_left c (256 ^ k)
  · have := pow_le8 k (by omega); omega
  · omega

set_option maxRecDepth 100000 in
set_option maxHeartbeats 800000 in
theorem fixed_any (v : Value) (bs : List Int) (n : Int) (w : World) (h : Sl w v bs) (ho : Oct bs) (hl : bs.length ≤ 1000000000) :
    Calls Try.prog 100 #[v, .int .i64 n] w fun x w' => w' = w ∧ x = .returned (if n < 0 ∨ 8 < n then .tuple #[.int .u64 0, .int .i64 0, .int .i64 1] else if (bs.length : Int) < n then .tuple #[.int .u64 0, .int .i64 0, .int .i64 2] else .tuple #[.int .u64 (leZ (bs.take n.toNat)), .int .i64 n, .int .i64 0]) := by
  obtain ⟨ao, cap, rfl, hc, hx⟩ := h
  by_cases hn : n < 0 ∨ 8 < n
  · rw [if_pos hn]
    rcases hn with hn | hn
    · clear hx
      go_enter Try.func100, Try.ntmps100
      go_wp2
      go_ret3
      exact ⟨rfl, rfl⟩
    · have hn' : ¬ n < 0 := by omega
      clear hx
      go_enter Try.func100, Try.ntmps100
      go_wp2
      go_ret3
      exact ⟨rfl, rfl⟩
  · rw [if_neg hn]
    obtain ⟨k, rfl⟩ := Int.eq_ofNat_of_zero_le (show 0 ≤ n by omega)
    have hk8 : k ≤ 8 := by omega
    clear hn
    by_cases hs : (bs.length : Int) < (k : Int)
    · rw [if_pos hs]
      clear hx
      go_enter Try.func100, Try.ntmps100
      go_wp2
      go_ret3
      exact ⟨rfl, rfl⟩
    · rw [if_neg hs, Int.toNat_natCast]
      have Hx : Hid _ := hx
      clear hx
      go_enter Try.func100, Try.ntmps100
      go_wp2
      go_loop [7, 8, 20] (fun u _ i => ∃ j : Nat, j ≤ k ∧ i = .int .i64 j ∧ u = .int .u64 (leZ (bs.take j))) (fun _ _ i => k - (intOf i).toNat)
      case atStart => exact ⟨0, Nat.zero_le _, rfl, rfl⟩
      case round =>
        obtain ⟨j, hj, rfl, rfl⟩ := hrel
        by_cases hlt : j < k
        · obtain ⟨b, off, rfl, hcell⟩ := Hx.out (by intro e; subst e; simp at hs; omega)
          have hjl : j < bs.length := by omega
          have hcj := hcell j bs[j] (by simp [hjl])
          have hb := ho bs[j] (List.getElem_mem hjl)
          have ht := leZ_bd (bs.take j) (fun x hx => ho x (List.mem_of_mem_take hx))
          have hlen : (bs.take j).length = j := by simp; omega
          rw [hlen] at ht
          have hst := le_step (leZ (bs.take j)) bs[j] j (by omega) ht.1 ht.2 hb.1 hb.2
          have hsn : leZ (bs.take (j + 1)) = leZ (bs.take j) + bs[j] * 256 ^ j := by rw [take_snoc bs j hjl, leZ_snoc, hlen]
          obtain ⟨c, hc'⟩ : ∃ c, c = bs[j] := ⟨_, rfl⟩
          rw [← hc'] at hcj hb hst hsn
          obtain ⟨hb0, hb1⟩ := hb
          have Hs : Hid _ := hsn
          have Hst : Hid _ := hst
          have hw8 : IntKind.i64.wrap (8 * (j : Int)) = 8 * (j : Int) := by rw [IntKind.wrap_i64]; omega
          clear hc' hcell hsn hst ht hlen
          go_wp2
          go_round
          case rel => exact ⟨j + 1, by omega, by go_num, by rw [Hs.out, Hst.out]⟩
          case measure => simp [intOf]; omega
        · obtain rfl : j = k := by omega
          go_wp2
          go_ret3
          exact ⟨rfl, rfl⟩

theorem pow_le9 (k : Nat) (h : k ≤ 9) : (128 : Int) ^ k ≤ 9223372036854775808 := by
  match k, h with
  | 0, _ | 1, _ | 2, _ | 3, _ | 4, _ | 5, _ | 6, _ | 7, _ | 8, _ | 9, _ => decide

/-- One more seven. -/
theorem seven_step (u c : Int) (k : Nat) (hk : k ≤ 9) (hu0 : 0 ≤ u) (hu : u < 128 ^ k) (hc0 : 0 ≤ c) (hc : c < 128) (h9 : k = 9 → c ≤ 1) :
    bits .or .u64 u (IntKind.u64.wrap (c * 2 ^ (7 * k))) = u + c * 128 ^ k := by
  have e : (2 : Int) ^ (7 * k) = 128 ^ k := by rw [Int.pow_mul]; rfl
  have hp : (0 : Int) < 128 ^ k := Int.pow_pos (by omega)
  have hn : 0 ≤ c * 128 ^ k := Int.mul_nonneg hc0 (by omega)
  have hlt : c * 128 ^ k < 18446744073709551616 := by
    by_cases h : k = 9
    · subst h
      have := h9 rfl
      have h1 : c * 128 ^ 9 ≤ 1 * 128 ^ 9 := Int.mul_le_mul_of_nonneg_right this (by omega)
      omega
    · have h8 := pow_le9 (k + 1) (by omega)
      rw [Int.pow_succ] at h8
      have hb : c * 128 ^ k ≤ 127 * 128 ^ k := Int.mul_le_mul_of_nonneg_right (by omega) (by omega)
      omega
  rw [e, IntKind.wrap_u64, Int.emod_eq_of_lt hn hlt]
  refine or_u64 u (c * 128 ^ k) (7 * k) hu0 ?_ hn ?_ ?_ hlt
  · rw [Int.pow_mul]; exact hu
  · rw [Int.pow_mul]; exact Int.mul_emod_left c (128 ^ k)
  · have := pow_le9 k hk; omega

theorem seven_bd (u c : Int) (k : Nat) (hu0 : 0 ≤ u) (hu : u < 128 ^ k) (hc0 : 0 ≤ c) (hc : c < 128) : 0 ≤ u + c * 128 ^ k ∧ u + c * 128 ^ k < 128 ^ (k + 1) := by
  have hp : (0 : Int) < 128 ^ k := Int.pow_pos (by omega)
  have hn : 0 ≤ c * 128 ^ k := Int.mul_nonneg hc0 (by omega)
  have hb : c * 128 ^ k ≤ 127 * 128 ^ k := Int.mul_le_mul_of_nonneg_right (by omega) (by omega)
  rw [Int.pow_succ]
  omega

/-- A tuple of three. -/
def tup3 (x : Int × Int × Int) : Value := .tuple #[.int .u64 x.1, .int .i64 x.2.1, .int .i64 x.2.2]

theorem rowGo_at (last : Nat) (top : Int) (bs : List Int) (j : Nat) (u : Int) (h : j < bs.length) :
    rowGo last top (bs.drop j) j u = if j + 1 = last ∧ top < bs[j] then (0, 0, 15)
    else if 128 ≤ bs[j] then rowGo last top (bs.drop (j + 1)) (j + 1) (u + bs[j] % 128 * 128 ^ j)
    else if 0 < j ∧ bs[j] = 0 then (0, 0, 3)
    else (u + bs[j] % 128 * 128 ^ j, (j : Int) + 1, 0) := by
  rw [List.drop_eq_getElem_cons h, rowGo]

set_option maxRecDepth 100000 in
set_option maxHeartbeats 1600000 in
theorem row_any (v : Value) (bs : List Int) (last : Nat) (top : Int) (w : World) (h : Sl w v bs) (ho : Oct bs) (hl : bs.length ≤ 1000000000) (hl1 : 1 ≤ last) (hl2 : last ≤ 10) (ht0 : 0 ≤ top) (ht : top < 128) (ht1 : last = 10 → top ≤ 1) :
    Calls Try.prog 101 #[v, .int .i64 last, .int .u8 top] w fun x w' => w' = w ∧ x = .returned (tup3 (rowGo last top bs 0 0)) := by
  obtain ⟨ao, cap, rfl, hc, hx⟩ := h
  have Hx : Hid _ := hx
  clear hx
  go_enter Try.func101, Try.ntmps101
  go_wp2
  go_loop [9, 10, 11, 14] (fun u _ _ i => ∃ (j : Nat) (y : Int), j ≤ bs.length ∧ j < last ∧ i = .int .i64 j ∧ u = .int .u64 y ∧ 0 ≤ y ∧ Hid (y < 128 ^ j) ∧ Hid (rowGo last top (bs.drop j) j y = rowGo last top bs 0 0)) (fun _ _ _ i => bs.length - (intOf i).toNat)
  case atStart => exact ⟨0, 0, Nat.zero_le _, by omega, rfl, rfl, by omega, (show (0 : Int) < 128 ^ 0 by decide), (show _ = _ from rfl)⟩
  case round =>
    obtain ⟨j, y, hj, hjl, rfl, rfl, hy0, hy1, hgo⟩ := hrel
    by_cases hlt : j < bs.length
    · obtain ⟨b, off, rfl, hcell⟩ := Hx.out (by intro e; subst e; simp at hlt)
      have hcj := hcell j bs[j] (by simp [hlt])
      have hb := ho bs[j] (List.getElem_mem hlt)
      have hat := rowGo_at last top bs j y hlt
      rw [hgo.out] at hat
      obtain ⟨c, hc'⟩ : ∃ c, c = bs[j] := ⟨_, rfl⟩
      rw [← hc'] at hcj hb hat
      obtain ⟨hb0, hb1⟩ := hb
      have Ha : Hid _ := hat
      have a1 := and127_u8 c hb0 hb1
      have a2 := and128_u8 c hb0 hb1
      have hw8 : IntKind.i64.wrap (7 * (j : Int)) = 7 * (j : Int) := by rw [IntKind.wrap_i64]; omega
      clear hc' hcell hat hgo
      by_cases hr : j + 1 = last ∧ top < c
      · have hres : rowGo last top bs 0 0 = (0, 0, 15) := by rw [Ha.out, if_pos hr]
        have Hres : Hid _ := hres
        obtain ⟨hr1, hr2⟩ := hr
        have hr3 : (j : Int) + 1 = (last : Int) := by omega
        clear hres
        go_wp2
        go_ret3
        exact ⟨rfl, by rw [Hres.out]; rfl⟩
      · by_cases hc8 : 128 ≤ c
        · have hst : Hid _ := seven_step y (c % 128) j (by omega) hy0 hy1 (by omega) (by omega) (by omega)
          have hbd : Hid _ := seven_bd y (c % 128) j hy0 hy1 (by omega) (by omega)
          have hres : rowGo last top bs 0 0 = rowGo last top (bs.drop (j + 1)) (j + 1) (y + c % 128 * 128 ^ j) := by rw [Ha.out, if_neg hr, if_pos hc8]
          have Hres : Hid _ := hres
          have a3 : c / 128 * 128 = 128 := by omega
          clear hres
          go_wp2
          go_round
          case rel => exact ⟨j + 1, y + c % 128 * 128 ^ j, by omega, by omega, by go_num, by rw [hst.out], hbd.out.1, hbd.out.2, (show _ = _ from Hres.out.symm)⟩
          case measure => simp [intOf]; omega
        · have hst : Hid _ := seven_step y (c % 128) j (by omega) hy0 hy1 (by omega) (by omega) (by omega)
          have a3 : c / 128 * 128 = 0 := by omega
          by_cases hz : 0 < j ∧ c = 0
          · have hres : rowGo last top bs 0 0 = (0, 0, 3) := by rw [Ha.out, if_neg hr, if_neg hc8, if_pos hz]
            have Hres : Hid _ := hres
            obtain ⟨hz1, hz2⟩ := hz
            clear hres
            by_cases hr1 : (j : Int) + 1 = (last : Int)
            · go_wp2
              go_ret3
              exact ⟨rfl, by rw [Hres.out]; rfl⟩
            · go_wp2
              go_ret3
              exact ⟨rfl, by rw [Hres.out]; rfl⟩
          · have hres : rowGo last top bs 0 0 = (y + c % 128 * 128 ^ j, (j : Int) + 1, 0) := by rw [Ha.out, if_neg hr, if_neg hc8, if_neg hz]
            have Hres : Hid _ := hres
            clear hres
            by_cases hr1 : (j : Int) + 1 = (last : Int)
            · by_cases hj0 : 0 < j
              · have hz2 : ¬ c = 0 := by omega
                go_wp2
                go_ret3
                exact ⟨rfl, by rw [Hres.out, ← hst.out, hr1]; rfl⟩
              · go_wp2
                go_ret3
                exact ⟨rfl, by rw [Hres.out, ← hst.out, hr1]; rfl⟩
            · by_cases hj0 : 0 < j
              · have hz2 : ¬ c = 0 := by omega
                go_wp2
                go_ret3
                exact ⟨rfl, by rw [Hres.out, ← hst.out]; rfl⟩
              · go_wp2
                go_ret3
                exact ⟨rfl, by rw [Hres.out, ← hst.out]; rfl⟩
    · have hres : rowGo last top bs 0 0 = (0, 0, 2) := by
        rw [← hgo.out, List.drop_eq_nil_of_le (by omega)]; rfl
      have Hres : Hid _ := hres
      clear hres hgo
      go_wp2
      go_ret3
      exact ⟨rfl, by rw [Hres.out]; rfl⟩

end Go.Proofs.Ytiammlngbejhkaa

namespace Go.Proofs.Ytiammlngbejhkaa
open Go.RowKit

def fixZ (bs : List Int) (n : Int) : Int × Int × Int := if n < 0 ∨ 8 < n then (0, 0, 1) else if (bs.length : Int) < n then (0, 0, 2) else (leZ (bs.take n.toNat), n, 0)

def leadZ (f : Int) (bs : List Int) (n : Int) : Int × Int × Int := if f = 0 then fixZ bs n else if f = 2 then rowGo 10 1 bs 0 0 else rowGo 9 127 bs 0 0

theorem fixed_tup (v : Value) (bs : List Int) (n : Int) (w : World) (h : Sl w v bs) (ho : Oct bs) (hl : bs.length ≤ 1000000000) :
    Calls Try.prog 100 #[v, .int .i64 n] w fun x w' => w' = w ∧ x = .returned (tup3 (fixZ bs n)) := by
  refine (fixed_any v bs n w h ho hl).mono ?_
  rintro x w' ⟨h1, h2⟩
  refine ⟨h1, h2.trans ?_⟩
  unfold fixZ
  split
  · rfl
  · split <;> rfl

set_option maxRecDepth 100000 in
set_option maxHeartbeats 800000 in
theorem lead_any (f : Int) (v : Value) (bs : List Int) (n : Int) (w : World) (h : Sl w v bs) (ho : Oct bs) (hl : bs.length ≤ 1000000000) :
    Calls Try.prog 99 #[.int .i64 f, v, .int .i64 n] w fun x w' => w' = w ∧ x = .returned (tup3 (leadZ f bs n)) := by
  unfold leadZ
  by_cases h0 : f = 0
  · rw [if_pos h0]
    subst h0
    obtain ⟨a, b, c, hr⟩ : ∃ a b c, fixZ bs n = (a, b, c) := ⟨_, _, _, rfl⟩
    have Hc : Calls Try.prog 100 #[v, .int .i64 n] w fun x w' => w' = w ∧ x = .returned (.tuple #[.int .u64 a, .int .i64 b, .int .i64 c]) := by
      have := fixed_tup v bs n w h ho hl
      rw [hr] at this
      exact this
    rw [hr]
    clear hr
    have HC := hid Hc
    clear Hc
    go_enter Try.func99, Try.ntmps99
    go_wp2_with (go_at_call 100; refine HC.out.mono ?_; rintro x w' ⟨hw, rfl⟩; subst hw)
    go_ret3
    exact ⟨rfl, rfl⟩
  · rw [if_neg h0]
    by_cases h2 : f = 2
    · rw [if_pos h2]
      subst h2
      obtain ⟨a, b, c, hr⟩ : ∃ a b c, rowGo 10 1 bs 0 0 = (a, b, c) := ⟨_, _, _, rfl⟩
      have Hc : Calls Try.prog 101 #[v, .int .i64 10, .int .u8 1] w fun x w' => w' = w ∧ x = .returned (.tuple #[.int .u64 a, .int .i64 b, .int .i64 c]) := by
        have := row_any v bs 10 1 w h ho hl (by omega) (by omega) (by omega) (by omega) (by omega)
        rw [hr] at this
        exact this
      rw [hr]
      clear hr
      have HC := hid Hc
      clear Hc
      go_enter Try.func99, Try.ntmps99
      go_wp2_with (go_at_call 101; refine HC.out.mono ?_; rintro x w' ⟨hw, rfl⟩; subst hw)
      go_ret3
      exact ⟨rfl, rfl⟩
    · rw [if_neg h2]
      obtain ⟨a, b, c, hr⟩ : ∃ a b c, rowGo 9 127 bs 0 0 = (a, b, c) := ⟨_, _, _, rfl⟩
      have Hc : Calls Try.prog 101 #[v, .int .i64 9, .int .u8 127] w fun x w' => w' = w ∧ x = .returned (.tuple #[.int .u64 a, .int .i64 b, .int .i64 c]) := by
        have := row_any v bs 9 127 w h ho hl (by omega) (by omega) (by omega) (by omega) (by omega)
        rw [hr] at this
        exact this
      rw [hr]
      clear hr
      have HC := hid Hc
      clear Hc
      go_enter Try.func99, Try.ntmps99
      go_wp2_with (go_at_call 101; refine HC.out.mono ?_; rintro x w' ⟨hw, rfl⟩; subst hw)
      go_ret3
      exact ⟨rfl, rfl⟩

end Go.Proofs.Ytiammlngbejhkaa

namespace Go.Proofs.Ytiammlngbejhkaa
open Go.RowKit

/-- A Reader at block p, its bytes in block g. -/
def Rd (w : World) (p : Nat) (g : Option Nat) (bs : List Int) (at' : Nat) (e : Int) : Prop :=
  ∃ v, w.heap[p]? = some (.cells #[v, .int .i64 at', .int .i64 e] 119 (0, 0)) ∧ v.ownBlock = g ∧ Sl w v bs ∧ g ≠ some p ∧ Oct bs ∧ at' ≤ bs.length ∧ bs.length ≤ 1000000000

theorem cell_of_three {w : World} {p : Nat} {a b c : Value} {t : TypeId} (h : w.heap[p]? = some (.cells #[a, b, c] t (0, 0))) : w.cell? ⟨p, 0, none⟩ = some a ∧ w.cell? ⟨p, 1, none⟩ = some b ∧ w.cell? ⟨p, 2, none⟩ = some c := by
  refine ⟨?_, ?_, ?_⟩
  · rw [cell_of_row w p 0 _ t (0, 0) h]; rfl
  · rw [cell_of_row w p 1 _ t (0, 0) h]; rfl
  · rw [cell_of_row w p 2 _ t (0, 0) h]; rfl

/-- A scope whose one label is jumped to at most once. -/
theorem wp_scope_once {P : Program} {a : Act} {w : World} {Q : Exit → Act → World → Prop} {c rest : Code} (l : Nat) (hf : findLabel c l = some rest)
    (first : c.wp P (Exit.jump l (fun a' w' => rest.wp P (Exit.noGoto Q) a' w') Q) a w) : (Code.scope c).wp P Q a w := by
  refine wp_scope_jumps l (fun a' w' => rest.wp P (Exit.noGoto Q) a' w') (fun _ _ => 0) hf first ?_
  intro a' w' h
  refine wp_mono h ?_
  intro e a2 w2 hq
  cases e with
  | goto l' => exact hq.elim
  | normal => exact hq
  | exit id => exact hq
  | ret => exact hq
  | panic ch => exact hq
  | outgrown => exact hq

set_option maxRecDepth 100000 in
set_option maxHeartbeats 800000 in
theorem take_stopped (p : Nat) (f n e : Int) (w : World) (c2 : w.cell? ⟨p, 2, none⟩ = some (.int .i64 e)) (he : (e == 0) = false) :
    Calls Try.prog 90 #[.pointer (some ⟨p, 0, none⟩), .int .i64 f, .int .i64 n] w fun x w' => w' = w ∧ x = .returned (.tuple #[.int .u64 0, .string ⟨#[]⟩]) := by
  have he2 : (e != 0) = true := by simpa using he
  go_enter Try.func90, Try.ntmps90
  go_wp2
  refine wp_scope_once 0 rfl ?_
  go_wp2
  simp only [Exit.jump]
  go_ret2
  exact ⟨rfl, rfl⟩

set_option maxRecDepth 100000 in
set_option maxHeartbeats 800000 in
theorem take_nil (f n : Int) (w : World) :
    Calls Try.prog 90 #[.pointer none, .int .i64 f, .int .i64 n] w fun x w' => w' = w ∧ x = .returned (.tuple #[.int .u64 0, .string ⟨#[]⟩]) := by
  go_enter Try.func90, Try.ntmps90
  go_wp2
  refine wp_scope_once 0 rfl ?_
  go_wp2
  simp only [Exit.jump]
  go_ret2
  exact ⟨rfl, rfl⟩

set_option maxRecDepth 100000 in
set_option maxHeartbeats 800000 in
theorem take_lead_err (p : Nat) (v rv : Value) (at' : Nat) (f n u sz e1 : Int) (w : World) (c0 : w.cell? ⟨p, 0, none⟩ = some v) (c1 : w.cell? ⟨p, 1, none⟩ = some (.int .i64 at')) (c2 : w.cell? ⟨p, 2, none⟩ = some (.int .i64 0))
    (f2 : w.frozen? ⟨p, 2, none⟩ = false) (hsl : ∀ wx : World, (Instr.slice 40 v (some (.int .i64 at')) none none).run Try.prog wx = .ok rv wx)
    (hc : ∀ nq : Nat, Calls Try.prog 99 #[.int .i64 f, rv, .int .i64 n] (w.drewN nq) fun x w' => w' = w.drewN nq ∧ x = .returned (.tuple #[.int .u64 u, .int .i64 sz, .int .i64 e1]))
    (he : e1 ≠ 0) :
    Calls Try.prog 90 #[.pointer (some ⟨p, 0, none⟩), .int .i64 f, .int .i64 n] w fun x w' => (∃ nq, w' = (w.drewN nq).setCell ⟨p, 2, none⟩ (.int .i64 e1)) ∧ x = .returned (.tuple #[.int .u64 0, .string ⟨#[]⟩]) := by
  have he2 : (e1 != 0) = true := by simpa using he
  have HC := hid hc
  clear hc he
  go_enter Try.func90, Try.ntmps90
  go_wp2
  refine wp_scope_once 0 rfl ?_
  go_wp2
  go_quiet (fail)
  have hcw := hid (HC.out nq)
  clear HC
  go_wp2_with (go_at_call 99; refine hcw.out.mono ?_; rintro x w' ⟨hw, rfl⟩; subst hw)
  go_step3
  refine ⟨rfl, ?_⟩
  go_wp2
  rw [Exit.noGoto_ret]
  go_ret2
  exact ⟨⟨nq, rfl⟩, rfl⟩

set_option maxRecDepth 100000 in
set_option maxHeartbeats 800000 in
theorem take_plain (p : Nat) (v rv : Value) (at' : Nat) (f n u sz e1 : Int) (w : World) (c0 : w.cell? ⟨p, 0, none⟩ = some v) (c1 : w.cell? ⟨p, 1, none⟩ = some (.int .i64 at')) (c2 : w.cell? ⟨p, 2, none⟩ = some (.int .i64 0))
    (f1 : w.frozen? ⟨p, 1, none⟩ = false) (hsl : ∀ wx : World, (Instr.slice 40 v (some (.int .i64 at')) none none).run Try.prog wx = .ok rv wx)
    (hc : ∀ nq : Nat, Calls Try.prog 99 #[.int .i64 f, rv, .int .i64 n] (w.drewN nq) fun x w' => w' = w.drewN nq ∧ x = .returned (.tuple #[.int .u64 u, .int .i64 sz, .int .i64 e1]))
    (he : e1 = 0) (hf : f ≠ 3) (hsz0 : 0 ≤ sz) (hsz1 : (at' : Int) + sz ≤ 1000000000) :
    Calls Try.prog 90 #[.pointer (some ⟨p, 0, none⟩), .int .i64 f, .int .i64 n] w fun x w' => (∃ nq, w' = (w.drewN nq).setCell ⟨p, 1, none⟩ (.int .i64 ((at' : Int) + sz))) ∧ x = .returned (.tuple #[.int .u64 u, .string ⟨#[]⟩]) := by
  subst he
  have hf2 : (f == 3) = false := by simpa using hf
  have HC := hid hc
  clear hc hf
  go_enter Try.func90, Try.ntmps90
  go_wp2
  refine wp_scope_once 0 rfl ?_
  go_wp2
  go_quiet (fail)
  have hcw := hid (HC.out nq)
  clear HC
  go_wp2_with (go_at_call 99; refine hcw.out.mono ?_; rintro x w' ⟨hw, rfl⟩; subst hw)
  simp only [Exit.jump]
  go_ret2
  exact ⟨⟨nq, rfl⟩, rfl⟩

set_option maxRecDepth 100000 in
set_option maxHeartbeats 800000 in
theorem take_text_long (p : Nat) (v rv : Value) (at' : Nat) (n u sz : Int) (w : World) (c0 : w.cell? ⟨p, 0, none⟩ = some v) (c1 : w.cell? ⟨p, 1, none⟩ = some (.int .i64 at')) (c2 : w.cell? ⟨p, 2, none⟩ = some (.int .i64 0))
    (f2 : w.frozen? ⟨p, 2, none⟩ = false) (hsl : ∀ wx : World, (Instr.slice 40 v (some (.int .i64 at')) none none).run Try.prog wx = .ok rv wx)
    (hc : ∀ nq : Nat, Calls Try.prog 99 #[.int .i64 3, rv, .int .i64 n] (w.drewN nq) fun x w' => w' = w.drewN nq ∧ x = .returned (.tuple #[.int .u64 u, .int .i64 sz, .int .i64 0]))
    (m : Nat) (_hlen : ∀ wx : World, (Builtin.len_ #[40] 3 #[rv]).run Try.prog wx = .ok (.int .i64 m) wx) (hu0 : 0 ≤ u) (hu1 : u < 9223372036854775808) (hn0 : -9223372036854775808 ≤ n) (hn1 : n < 9223372036854775808) (_hsz0 : 0 ≤ sz) (_hsz1 : sz ≤ m) (_hm : (at' : Int) + m ≤ 1000000000) (hlong : max n 0 < u) :
    Calls Try.prog 90 #[.pointer (some ⟨p, 0, none⟩), .int .i64 3, .int .i64 n] w fun x w' => (∃ nq, w' = (w.drewN nq).setCell ⟨p, 2, none⟩ (.int .i64 4)) ∧ x = .returned (.tuple #[.int .u64 0, .string ⟨#[]⟩]) := by
  have HC := hid hc
  clear hc
  by_cases hn : 0 ≤ n
  · have hx : n < u := by omega
    clear hlong
    go_enter Try.func90, Try.ntmps90
    go_wp2
    refine wp_scope_once 0 rfl ?_
    go_wp2
    go_quiet (fail)
    have hcw := hid (HC.out nq)
    clear HC
    go_wp2_with (go_at_call 99; refine hcw.out.mono ?_; rintro x w' ⟨hw, rfl⟩; subst hw)
    go_step3
    refine ⟨rfl, ?_⟩
    go_wp2
    rw [Exit.noGoto_ret]
    go_ret2
    exact ⟨⟨nq, rfl⟩, rfl⟩
  · have hx : 0 < u := by omega
    have hx2 : n < 0 := by omega
    clear hlong hn
    go_enter Try.func90, Try.ntmps90
    go_wp2
    refine wp_scope_once 0 rfl ?_
    go_wp2
    go_quiet (fail)
    have hcw := hid (HC.out nq)
    clear HC
    go_wp2_with (go_at_call 99; refine hcw.out.mono ?_; rintro x w' ⟨hw, rfl⟩; subst hw)
    go_step3
    refine ⟨rfl, ?_⟩
    go_wp2
    rw [Exit.noGoto_ret]
    go_ret2
    exact ⟨⟨nq, rfl⟩, rfl⟩

set_option maxRecDepth 100000 in
set_option maxHeartbeats 800000 in
theorem take_text_short (p : Nat) (v rv : Value) (at' : Nat) (n u sz : Int) (w : World) (c0 : w.cell? ⟨p, 0, none⟩ = some v) (c1 : w.cell? ⟨p, 1, none⟩ = some (.int .i64 at')) (c2 : w.cell? ⟨p, 2, none⟩ = some (.int .i64 0))
    (f2 : w.frozen? ⟨p, 2, none⟩ = false) (hsl : ∀ wx : World, (Instr.slice 40 v (some (.int .i64 at')) none none).run Try.prog wx = .ok rv wx)
    (hc : ∀ nq : Nat, Calls Try.prog 99 #[.int .i64 3, rv, .int .i64 n] (w.drewN nq) fun x w' => w' = w.drewN nq ∧ x = .returned (.tuple #[.int .u64 u, .int .i64 sz, .int .i64 0]))
    (m : Nat) (hlen : ∀ wx : World, (Builtin.len_ #[40] 3 #[rv]).run Try.prog wx = .ok (.int .i64 m) wx) (_hu0 : 0 ≤ u) (_hu1 : u < 9223372036854775808) (hn0 : -9223372036854775808 ≤ n) (hn1 : n < 9223372036854775808) (hsz0 : 0 ≤ sz) (hsz1 : sz ≤ m) (hm : (at' : Int) + m ≤ 1000000000) (hlong : u ≤ max n 0) (hsh : (m : Int) - sz < u) :
    Calls Try.prog 90 #[.pointer (some ⟨p, 0, none⟩), .int .i64 3, .int .i64 n] w fun x w' => (∃ nq, w' = (w.drewN nq).setCell ⟨p, 2, none⟩ (.int .i64 2)) ∧ x = .returned (.tuple #[.int .u64 0, .string ⟨#[]⟩]) := by
  have HC := hid hc
  clear hc
  by_cases hn : 0 ≤ n
  · have hx : u ≤ n := by omega
    clear hlong
    go_enter Try.func90, Try.ntmps90
    go_wp2
    refine wp_scope_once 0 rfl ?_
    go_wp2
    go_quiet (fail)
    have hcw := hid (HC.out nq)
    clear HC
    go_wp2_with (go_at_call 99; refine hcw.out.mono ?_; rintro x w' ⟨hw, rfl⟩; subst hw)
    go_step3
    refine ⟨rfl, ?_⟩
    go_wp2
    rw [Exit.noGoto_ret]
    go_ret2
    exact ⟨⟨nq, rfl⟩, rfl⟩
  · exfalso; omega

set_option maxRecDepth 100000 in
set_option maxHeartbeats 800000 in
theorem take_text_ok (p : Nat) (v rv : Value) (at' : Nat) (n u sz : Int) (w : World) (c0 : w.cell? ⟨p, 0, none⟩ = some v) (c1 : w.cell? ⟨p, 1, none⟩ = some (.int .i64 at')) (c2 : w.cell? ⟨p, 2, none⟩ = some (.int .i64 0))
    (f1 : w.frozen? ⟨p, 1, none⟩ = false) (hsl : ∀ wx : World, (Instr.slice 40 v (some (.int .i64 at')) none none).run Try.prog wx = .ok rv wx)
    (hc : ∀ nq : Nat, Calls Try.prog 99 #[.int .i64 3, rv, .int .i64 n] (w.drewN nq) fun x w' => w' = w.drewN nq ∧ x = .returned (.tuple #[.int .u64 u, .int .i64 sz, .int .i64 0]))
    (m : Nat) (hlen : ∀ wx : World, (Builtin.len_ #[40] 3 #[rv]).run Try.prog wx = .ok (.int .i64 m) wx) (hu0 : 0 ≤ u) (hu1 : u < 9223372036854775808) (hn0 : -9223372036854775808 ≤ n) (hn1 : n < 9223372036854775808) (hsz0 : 0 ≤ sz) (hsz1 : sz ≤ m) (hm : (at' : Int) + m ≤ 1000000000) (hlong : u ≤ max n 0) (hsh : u ≤ (m : Int) - sz) (rv2 : Value) (s : ByteArray) (hsl2 : ∀ wx : World, (Instr.slice 40 rv (some (.int .i64 sz)) (some (.int .i64 (sz + u))) none).run Try.prog wx = .ok rv2 wx) (hstr : ∀ nq : Nat, (convert 40 9 rv2).run Try.prog (w.drewN nq) = .ok (.string s) (w.drewN nq)) :
    Calls Try.prog 90 #[.pointer (some ⟨p, 0, none⟩), .int .i64 3, .int .i64 n] w fun x w' => (∃ nq, w' = (w.drewN nq).setCell ⟨p, 1, none⟩ (.int .i64 ((at' : Int) + (sz + u)))) ∧ x = .returned (.tuple #[.int .u64 u, .string s]) := by
  have HC := hid hc
  clear hc
  by_cases hn : 0 ≤ n
  · have hx : u ≤ n := by omega
    clear hlong
    go_enter Try.func90, Try.ntmps90
    go_wp2
    refine wp_scope_once 0 rfl ?_
    go_wp2
    go_quiet (fail)
    have hcw := hid (HC.out nq)
    have hst := hstr nq
    clear HC
    go_wp2_with (go_at_call 99; refine hcw.out.mono ?_; rintro x w' ⟨hw, rfl⟩; subst hw)
    simp only [Exit.jump]
    go_ret2
    exact ⟨⟨nq, rfl⟩, rfl⟩
  · have hx2 : n < 0 := by omega
    obtain rfl : u = 0 := by omega
    simp only [Int.add_zero] at hsl2 ⊢
    clear hlong hn hu0 hu1
    go_enter Try.func90, Try.ntmps90
    go_wp2
    refine wp_scope_once 0 rfl ?_
    go_wp2
    go_quiet (fail)
    have hcw := hid (HC.out nq)
    have hst := hstr nq
    clear HC
    go_wp2_with (go_at_call 99; refine hcw.out.mono ?_; rintro x w' ⟨hw, rfl⟩; subst hw)
    simp only [Exit.jump]
    go_ret2
    exact ⟨⟨nq, rfl⟩, rfl⟩

end Go.Proofs.Ytiammlngbejhkaa

namespace Go.Proofs.Ytiammlngbejhkaa
open Go.RowKit

theorem pow_mono128 {a b : Nat} (h : a ≤ b) : (128 : Int) ^ a ≤ 128 ^ b := by
  obtain ⟨d, rfl⟩ := Nat.le.dest h
  clear h
  induction d with
  | zero => exact Int.le_refl _
  | succ d ih =>
    have hp : (0 : Int) < 128 ^ (a + d) := Int.pow_pos (by omega)
    rw [← Nat.add_assoc, Int.pow_succ]
    omega

theorem rowGo_ok (last : Nat) (top : Int) (ht0 : 0 ≤ top) (ht : top < 128) (l : List Int) : ∀ (i : Nat) (u : Int), Oct l → 0 ≤ u → u < 128 ^ i → i < last → (rowGo last top l i u).2.2 = 0 →
    (i : Int) + 1 ≤ (rowGo last top l i u).2.1 ∧ (rowGo last top l i u).2.1 ≤ i + l.length ∧ 0 ≤ (rowGo last top l i u).1 ∧ (rowGo last top l i u).1 < (top + 1) * 128 ^ (last - 1) := by
  induction l with
  | nil => intro i u _ _ _ _ h; simp [rowGo] at h
  | cons c cs ih =>
    intro i u ho h0 h1 hi
    have hc := ho c (List.mem_cons_self ..)
    have ho2 : Oct cs := fun x hx => ho x (List.mem_cons_of_mem _ hx)
    rw [rowGo]
    by_cases a1 : i + 1 = last ∧ top < c
    · rw [if_pos a1]; intro h; simp at h
    · rw [if_neg a1]
      by_cases a2 : 128 ≤ c
      · rw [if_pos a2]
        intro h
        have hb := seven_bd u (c % 128) i h0 h1 (by omega) (by omega)
        obtain ⟨q1, q2, q3, q4⟩ := ih (i + 1) _ ho2 hb.1 hb.2 (by omega) h
        refine ⟨by omega, ?_, q3, q4⟩
        simp only [List.length_cons]
        omega
      · rw [if_neg a2]
        by_cases a3 : 0 < i ∧ c = 0
        · rw [if_pos a3]; intro h; simp at h
        · rw [if_neg a3]
          intro _
          have hcm : c % 128 = c := by omega
          simp only [hcm, List.length_cons]
          have hp : (0 : Int) < 128 ^ i := Int.pow_pos (by omega)
          have hn : 0 ≤ c * 128 ^ i := Int.mul_nonneg hc.1 (by omega)
          refine ⟨by omega, by omega, by omega, ?_⟩
          by_cases hl : i + 1 = last
          · obtain rfl : i = last - 1 := by omega
            have : c ≤ top := by omega
            have hm : c * 128 ^ (last - 1) ≤ top * 128 ^ (last - 1) := Int.mul_le_mul_of_nonneg_right this (by omega)
            rw [Int.add_mul]
            omega
          · have hb := seven_bd u c i h0 h1 hc.1 (by omega)
            have hm := pow_mono128 (show i + 1 ≤ last - 1 by omega)
            have hm2 : 1 * 128 ^ (last - 1) ≤ (top + 1) * 128 ^ (last - 1) := Int.mul_le_mul_of_nonneg_right (by omega) (by have : (0 : Int) < 128 ^ (last - 1) := Int.pow_pos (by omega); omega)
            omega

theorem leadZ_ok (f : Int) (bs : List Int) (n : Int) (ho : Oct bs) (h : (leadZ f bs n).2.2 = 0) :
    0 ≤ (leadZ f bs n).2.1 ∧ (leadZ f bs n).2.1 ≤ bs.length ∧ 0 ≤ (leadZ f bs n).1 ∧ (leadZ f bs n).1 < 18446744073709551616 ∧ (f ≠ 0 → f ≠ 2 → (leadZ f bs n).1 < 9223372036854775808) := by
  unfold leadZ at h ⊢
  by_cases h0 : f = 0
  · rw [if_pos h0] at h ⊢
    unfold fixZ at h ⊢
    by_cases a1 : n < 0 ∨ 8 < n
    · rw [if_pos a1] at h; simp at h
    · rw [if_neg a1] at h ⊢
      by_cases a2 : (bs.length : Int) < n
      · rw [if_pos a2] at h; simp at h
      · rw [if_neg a2]
        have hb := leZ_bd (bs.take n.toNat) (fun x hx => ho x (List.mem_of_mem_take hx))
        have hl : (bs.take n.toNat).length = n.toNat := by simp; omega
        rw [hl] at hb
        have := pow_le8 n.toNat (by omega)
        exact ⟨by dsimp only; omega, by dsimp only; omega, hb.1, by dsimp only; omega, fun h => absurd h0 h⟩
  · rw [if_neg h0] at h ⊢
    by_cases h2 : f = 2
    · rw [if_pos h2] at h ⊢
      obtain ⟨q1, q2, q3, q4⟩ := rowGo_ok 10 1 (by omega) (by omega) bs 0 0 ho (by omega) (by decide) (by omega) h
      have e : ((1 : Int) + 1) * 128 ^ (10 - 1) = 18446744073709551616 := by decide
      rw [e] at q4
      exact ⟨by omega, by omega, q3, q4, fun _ h => absurd h2 h⟩
    · rw [if_neg h2] at h ⊢
      obtain ⟨q1, q2, q3, q4⟩ := rowGo_ok 9 127 (by omega) (by omega) bs 0 0 ho (by omega) (by decide) (by omega) h
      have e : ((127 : Int) + 1) * 128 ^ (9 - 1) = 9223372036854775808 := by decide
      rw [e] at q4
      exact ⟨by omega, by omega, q3, by omega, fun _ _ => q4⟩

/-- What 'take' answers and leaves: number, text, place, error. -/
def takeZ (f n : Int) (bs : List Int) (at' : Nat) (e : Int) : (Int × List Int) × Nat × Int :=
  if e = 0 then
    if (leadZ f (bs.drop at') n).2.2 = 0 then
      if f = 3 then
        if max n 0 < (leadZ f (bs.drop at') n).1 then ((0, []), at', 4)
        else if ((bs.drop at').length : Int) - (leadZ f (bs.drop at') n).2.1 < (leadZ f (bs.drop at') n).1 then ((0, []), at', 2)
        else (((leadZ f (bs.drop at') n).1, ((bs.drop at').drop (leadZ f (bs.drop at') n).2.1.toNat).take (leadZ f (bs.drop at') n).1.toNat), at' + ((leadZ f (bs.drop at') n).2.1 + (leadZ f (bs.drop at') n).1).toNat, 0)
      else (((leadZ f (bs.drop at') n).1, []), at' + (leadZ f (bs.drop at') n).2.1.toNat, 0)
    else ((0, []), at', (leadZ f (bs.drop at') n).2.2)
  else ((0, []), at', e)

/-- What a call on a Reader leaves. -/
def RdStep (p : Nat) (g : Option Nat) (w w' : World) (bs : List Int) (at' : Nat) (e : Int) : Prop := Rd w' p g bs at' e ∧ Kept (fun k => k = p) w w'

theorem heap3_set1 {w : World} {p : Nat} {a b c x : Value} {t : TypeId} (h : w.heap[p]? = some (.cells #[a, b, c] t (0, 0))) : (w.setCell ⟨p, 1, none⟩ x).heap[p]? = some (.cells #[a, x, c] t (0, 0)) := by
  simp [World.setCell, Array.getElem?_modify, h]
theorem heap3_set2 {w : World} {p : Nat} {a b c x : Value} {t : TypeId} (h : w.heap[p]? = some (.cells #[a, b, c] t (0, 0))) : (w.setCell ⟨p, 2, none⟩ x).heap[p]? = some (.cells #[a, b, x] t (0, 0)) := by
  simp [World.setCell, Array.getElem?_modify, h]

theorem heap_drewN (w : World) (n : Nat) : (w.drewN n).heap = w.heap := by simp

theorem kept_drewN (S : Nat → Prop) (w : World) (n : Nat) : Kept S w (w.drewN n) := by
  exact ⟨rfl, rfl, rfl, Nat.le_refl _, fun _ _ _ => rfl⟩

theorem rd_set1 {w : World} {p : Nat} {g : Option Nat} {bs : List Int} {at' : Nat} {e : Int} (h : Rd w p g bs at' e) (nq : Nat) (a2 : Nat) (ha : a2 ≤ bs.length) : RdStep p g w ((w.drewN nq).setCell ⟨p, 1, none⟩ (.int .i64 a2)) bs a2 e := by
  obtain ⟨v, h1, h2, h3, h4, h5, _, h7⟩ := h
  have hk : Kept (fun k => k = p) w ((w.drewN nq).setCell ⟨p, 1, none⟩ (.int .i64 a2)) := Kept.setCell (S := fun k => k = p) (p := ⟨p, 1, none⟩) (kept_drewN _ w nq) (fun _ => rfl) _
  refine ⟨⟨v, heap3_set1 (by rw [heap_drewN]; exact h1), h2, h3.kept hk ?_, h4, h5, ha, h7⟩, hk⟩
  intro k hk2 e
  apply h4
  rw [← h2, hk2, e]

theorem rd_set2 {w : World} {p : Nat} {g : Option Nat} {bs : List Int} {at' : Nat} {e : Int} (h : Rd w p g bs at' e) (nq : Nat) (e2 : Int) : RdStep p g w ((w.drewN nq).setCell ⟨p, 2, none⟩ (.int .i64 e2)) bs at' e2 := by
  obtain ⟨v, h1, h2, h3, h4, h5, h6, h7⟩ := h
  have hk : Kept (fun k => k = p) w ((w.drewN nq).setCell ⟨p, 2, none⟩ (.int .i64 e2)) := Kept.setCell (S := fun k => k = p) (p := ⟨p, 2, none⟩) (kept_drewN _ w nq) (fun _ => rfl) _
  refine ⟨⟨v, heap3_set2 (by rw [heap_drewN]; exact h1), h2, h3.kept hk ?_, h4, h5, h6, h7⟩, hk⟩
  intro k hk2 e
  apply h4
  rw [← h2, hk2, e]

theorem sl_len {w : World} {v : Value} {bs : List Int} (h : Sl w v bs) (wx : World) : (Builtin.len_ #[40] 3 #[v]).run Try.prog wx = .ok (.int .i64 bs.length) wx := by
  obtain ⟨ao, cap, rfl, _⟩ := h
  simp [Builtin.len_, run_underlying Try.underlying40, goInt]

theorem take_any (p : Nat) (g : Option Nat) (bs : List Int) (at' : Nat) (e f n : Int) (w : World) (h : Rd w p g bs at' e) (hn0 : -9223372036854775808 ≤ n) (hn1 : n < 9223372036854775808) :
    Calls Try.prog 90 #[.pointer (some ⟨p, 0, none⟩), .int .i64 f, .int .i64 n] w fun x w' => RdStep p g w w' bs (takeZ f n bs at' e).2.1 (takeZ f n bs at' e).2.2 ∧
      x = .returned (.tuple #[.int .u64 (takeZ f n bs at' e).1.1, .string (mkStr (takeZ f n bs at' e).1.2)]) := by
  have hh := h
  obtain ⟨v, h1, h2, h3, h4, h5, h6, h7⟩ := hh
  obtain ⟨c0, c1, c2⟩ := cell_of_three h1
  have f1 := free_of_block (o := 1) h1
  have f2 := free_of_block (o := 2) h1
  by_cases he : e = 0
  · subst he
    obtain ⟨rv, hsl, hrv, _⟩ := sl_from h3 at' h6
    have ho : Oct (bs.drop at') := fun x hx => h5 x (List.mem_of_mem_drop hx)
    have hdl : (bs.drop at').length = bs.length - at' := by simp
    obtain ⟨u, sz, e1, hr⟩ : ∃ u sz e1, leadZ f (bs.drop at') n = (u, sz, e1) := ⟨_, _, _, rfl⟩
    have hc : ∀ nq : Nat, Calls Try.prog 99 #[.int .i64 f, rv, .int .i64 n] (w.drewN nq) fun x w' => w' = w.drewN nq ∧ x = .returned (.tuple #[.int .u64 u, .int .i64 sz, .int .i64 e1]) := by
      intro nq
      have := lead_any f rv (bs.drop at') n (w.drewN nq) (hrv.drewN nq) ho (by omega)
      rw [hr] at this
      exact this
    unfold takeZ
    rw [if_pos rfl, hr]
    dsimp only
    by_cases he1 : e1 = 0
    · rw [if_pos he1]
      have hok := leadZ_ok f (bs.drop at') n ho (by rw [hr]; exact he1)
      rw [hr] at hok
      dsimp only at hok
      obtain ⟨k1, k2, k3, k4, k5⟩ := hok
      by_cases hf : f = 3
      · rw [if_pos hf]
        subst hf
        subst he1
        have k6 := k5 (by omega) (by omega)
        have hlen := fun wx => sl_len hrv wx
        by_cases hlong : max n 0 < u
        · rw [if_pos hlong]
          refine (take_text_long p v rv at' n u sz w c0 c1 c2 f2 hsl hc _ hlen k3 k6 hn0 hn1 k1 k2 (by omega) hlong).mono ?_
          rintro x w' ⟨⟨nq, rfl⟩, rfl⟩
          exact ⟨rd_set2 h nq _, rfl⟩
        · rw [if_neg hlong]
          by_cases hsh : ((bs.drop at').length : Int) - sz < u
          · rw [if_pos hsh]
            refine (take_text_short p v rv at' n u sz w c0 c1 c2 f2 hsl hc _ hlen k3 k6 hn0 hn1 k1 k2 (by omega) (by omega) hsh).mono ?_
            rintro x w' ⟨⟨nq, rfl⟩, rfl⟩
            exact ⟨rd_set2 h nq _, rfl⟩
          · rw [if_neg hsh]
            obtain ⟨su, rfl⟩ := Int.eq_ofNat_of_zero_le k1
            obtain ⟨uu, rfl⟩ := Int.eq_ofNat_of_zero_le k3
            obtain ⟨rv2, hsl2, hrv2, _⟩ := sl_part hrv su (su + uu) (by omega) (by omega)
            rw [Nat.add_sub_cancel_left] at hrv2
            refine (take_text_ok p v rv at' n uu su w c0 c1 c2 f1 hsl hc _ hlen k3 k6 hn0 hn1 k1 k2 (by omega) (by omega) (by omega) rv2 _ (by simpa using hsl2) (fun nq => sl_string (hrv2.drewN nq))).mono ?_
            rintro x w' ⟨⟨nq, rfl⟩, rfl⟩
            have e1 : ((su : Int) + (uu : Int)).toNat = su + uu := by omega
            have e2 : (at' : Int) + ((su : Int) + (uu : Int)) = ((at' + (su + uu) : Nat) : Int) := by omega
            rw [e1, e2, Int.toNat_natCast, Int.toNat_natCast]
            exact ⟨rd_set1 h nq _ (by omega), rfl⟩
      · rw [if_neg hf]
        refine (take_plain p v rv at' f n u sz e1 w c0 c1 c2 f1 hsl hc he1 hf k1 (by omega)).mono ?_
        rintro x w' ⟨⟨nq, rfl⟩, rfl⟩
        have e2 : (at' : Int) + sz = ((at' + sz.toNat : Nat) : Int) := by omega
        rw [e2]
        exact ⟨rd_set1 h nq _ (by omega), rfl⟩
    · rw [if_neg he1]
      refine (take_lead_err p v rv at' f n u sz e1 w c0 c1 c2 f2 hsl hc he1).mono ?_
      rintro x w' ⟨⟨nq, rfl⟩, rfl⟩
      exact ⟨rd_set2 h nq _, rfl⟩
  · unfold takeZ
    rw [if_neg he]
    refine (take_stopped p f n e w c2 (by simpa using he)).mono ?_
    rintro x w' ⟨rfl, rfl⟩
    exact ⟨⟨h, Kept.refl _ _⟩, rfl⟩

end Go.Proofs.Ytiammlngbejhkaa

namespace Go.Proofs.Ytiammlngbejhkaa
open Go.RowKit

theorem takeZ_bd (f n : Int) (bs : List Int) (at' : Nat) (e : Int) (ho : Oct bs) :
    0 ≤ (takeZ f n bs at' e).1.1 ∧ (takeZ f n bs at' e).1.1 < 18446744073709551616 ∧ (f ≠ 0 → f ≠ 2 → (takeZ f n bs at' e).1.1 < 9223372036854775808) ∧ (f = 0 → n = 1 → (takeZ f n bs at' e).1.1 < 256) := by
  have ho2 : Oct (bs.drop at') := fun x hx => ho x (List.mem_of_mem_drop hx)
  have hb : f = 0 → n = 1 → (leadZ f (bs.drop at') n).2.2 = 0 → (leadZ f (bs.drop at') n).1 < 256 := by
    intro h1 h2 h3
    subst h1; subst h2
    unfold leadZ fixZ at h3 ⊢
    rw [if_pos rfl, if_neg (by omega)] at h3 ⊢
    by_cases h4 : ((bs.drop at').length : Int) < 1
    · rw [if_pos h4] at h3; simp at h3
    · rw [if_neg h4]
      have := leZ_bd ((bs.drop at').take 1) (fun x hx => ho2 x (List.mem_of_mem_take hx))
      have hl : ((bs.drop at').take 1).length = 1 := by rw [List.length_take]; omega
      rw [hl] at this
      exact this.2
  unfold takeZ
  split
  · split
    · rename_i h1 h2
      have hk := leadZ_ok f (bs.drop at') n ho2 h2
      split
      · split
        · exact ⟨by dsimp only; omega, by dsimp only; omega, fun _ _ => by dsimp only; omega, fun _ _ => by dsimp only; omega⟩
        · split
          · exact ⟨by dsimp only; omega, by dsimp only; omega, fun _ _ => by dsimp only; omega, fun _ _ => by dsimp only; omega⟩
          · exact ⟨hk.2.2.1, hk.2.2.2.1, hk.2.2.2.2, fun a b => hb a b h2⟩
      · exact ⟨hk.2.2.1, hk.2.2.2.1, hk.2.2.2.2, fun a b => hb a b h2⟩
    · exact ⟨by dsimp only; omega, by dsimp only; omega, fun _ _ => by dsimp only; omega, fun _ _ => by dsimp only; omega⟩
  · exact ⟨by dsimp only; omega, by dsimp only; omega, fun _ _ => by dsimp only; omega, fun _ _ => by dsimp only; omega⟩

theorem Rd.oct {w : World} {p : Nat} {g : Option Nat} {bs : List Int} {at' : Nat} {e : Int} (h : Rd w p g bs at' e) : Oct bs := by
  obtain ⟨_, _, _, _, _, h, _⟩ := h; exact h

/-- 'take' with its answer named. -/
theorem take_named (p : Nat) (g : Option Nat) (bs : List Int) (at' : Nat) (e f n : Int) (w : World) (h : Rd w p g bs at' e) (hn0 : -9223372036854775808 ≤ n) (hn1 : n < 9223372036854775808) :
    ∃ u s a2 e2, u = (takeZ f n bs at' e).1.1 ∧ s = mkStr (takeZ f n bs at' e).1.2 ∧ a2 = (takeZ f n bs at' e).2.1 ∧ e2 = (takeZ f n bs at' e).2.2 ∧
    Calls Try.prog 90 #[.pointer (some ⟨p, 0, none⟩), .int .i64 f, .int .i64 n] w fun x w' => RdStep p g w w' bs a2 e2 ∧ x = .returned (.tuple #[.int .u64 u, .string s]) :=
  ⟨_, _, _, _, rfl, rfl, rfl, rfl, take_any p g bs at' e f n w h hn0 hn1⟩

set_option maxRecDepth 100000 in
set_option maxHeartbeats 800000 in
theorem rbyte_any (p : Nat) (g : Option Nat) (bs : List Int) (at' : Nat) (e : Int) (w : World) (h : Rd w p g bs at' e) :
    Calls Try.prog 59 #[.pointer (some ⟨p, 0, none⟩)] w fun x w' => RdStep p g w w' bs (takeZ 0 1 bs at' e).2.1 (takeZ 0 1 bs at' e).2.2 ∧ x = .returned (.int .u8 (takeZ 0 1 bs at' e).1.1) := by
  have hb := takeZ_bd 0 1 bs at' e h.oct
  obtain ⟨u, s, a2, e2, h1, h2, h3, h4, hc⟩ := take_named p g bs at' e 0 1 w h (by omega) (by omega)
  rw [← h1, ← h3, ← h4]
  rw [← h1] at hb
  have HC := hid hc
  obtain ⟨b0, _, _, b1⟩ := hb
  have b2 := b1 rfl rfl
  clear hc h1 h2 h3 h4 b1 h
  go_enter Try.func59, Try.ntmps59
  go_wp2_with (go_at_call 90; refine HC.out.mono ?_; rintro x w' ⟨hw1, rfl⟩; have HW := hid hw1; clear hw1)
  go_ret
  refine ⟨?_, rfl⟩
  exact Hid.out (by assumption)

set_option maxRecDepth 100000 in
set_option maxHeartbeats 800000 in
theorem rint_any (p : Nat) (g : Option Nat) (bs : List Int) (at' : Nat) (e : Int) (w : World) (h : Rd w p g bs at' e) :
    Calls Try.prog 60 #[.pointer (some ⟨p, 0, none⟩)] w fun x w' => RdStep p g w w' bs (takeZ 2 0 bs at' e).2.1 (takeZ 2 0 bs at' e).2.2 ∧ x = .returned (.int .i64 (unfoldZ (takeZ 2 0 bs at' e).1.1)) := by
  have hb := takeZ_bd 2 0 bs at' e h.oct
  obtain ⟨u, s, a2, e2, h1, h2, h3, h4, hc⟩ := take_named p g bs at' e 2 0 w h (by omega) (by omega)
  rw [← h1, ← h3, ← h4]
  rw [← h1] at hb
  have HC := hid hc
  obtain ⟨b0, b1, _, _⟩ := hb
  clear hc h1 h2 h3 h4 h
  go_enter Try.func60, Try.ntmps60
  go_wp2_with (first | (go_at_call 90; refine HC.out.mono ?_; rintro x w' ⟨hw1, rfl⟩; have HW := hid hw1; clear hw1) | (go_at_call 91; refine (unfold_any u _ b0 b1).mono ?_; rintro x w2 ⟨rfl, hw2⟩; subst hw2))
  go_ret
  refine ⟨?_, rfl⟩
  exact Hid.out (by assumption)

set_option maxRecDepth 100000 in
set_option maxHeartbeats 800000 in
theorem rtext_any (p : Nat) (g : Option Nat) (bs : List Int) (at' : Nat) (e n : Int) (w : World) (h : Rd w p g bs at' e) (hn0 : -9223372036854775808 ≤ n) (hn1 : n < 9223372036854775808) :
    Calls Try.prog 61 #[.pointer (some ⟨p, 0, none⟩), .int .i64 n] w fun x w' => RdStep p g w w' bs (takeZ 3 n bs at' e).2.1 (takeZ 3 n bs at' e).2.2 ∧ x = .returned (.string (mkStr (takeZ 3 n bs at' e).1.2)) := by
  obtain ⟨u, s, a2, e2, h1, h2, h3, h4, hc⟩ := take_named p g bs at' e 3 n w h hn0 hn1
  rw [← h2, ← h3, ← h4]
  have HC := hid hc
  clear hc h1 h2 h3 h4 h
  go_enter Try.func61, Try.ntmps61
  go_wp2_with (go_at_call 90; refine HC.out.mono ?_; rintro x w' ⟨hw1, rfl⟩; have HW := hid hw1; clear hw1)
  go_ret
  refine ⟨?_, rfl⟩
  exact Hid.out (by assumption)

set_option maxRecDepth 100000 in
set_option maxHeartbeats 800000 in
theorem left_any (p : Nat) (g : Option Nat) (bs : List Int) (at' : Nat) (e : Int) (w : World) (h : Rd w p g bs at' e) :
    Calls Try.prog 93 #[.pointer (some ⟨p, 0, none⟩)] w fun x w' => (∃ nq, w' = w.drewN nq) ∧ x = .returned (.int .i64 ((bs.length : Int) - at')) := by
  obtain ⟨v, h1, h2, h3, h4, h5, h6, h7⟩ := h
  obtain ⟨c0, c1, c2⟩ := cell_of_three h1
  have hlen := fun wx => sl_len h3 wx
  clear h1 h3 h2 h4 h5
  go_enter Try.func93, Try.ntmps93
  go_wp2
  go_quiet (fail)
  go_wp2
  go_ret
  exact ⟨⟨nq, rfl⟩, rfl⟩

set_option maxRecDepth 100000 in
set_option maxHeartbeats 800000 in
theorem rerr_any (p : Nat) (g : Option Nat) (bs : List Int) (at' : Nat) (e : Int) (w : World) (h : Rd w p g bs at' e) :
    Calls Try.prog 92 #[.pointer (some ⟨p, 0, none⟩)] w fun x w' => (∃ nq, w' = w.drewN nq) ∧ x = .returned (.tuple #[.int .i64 e, .int .i64 (if e = 0 then 0 else (at' : Int))]) := by
  obtain ⟨v, h1, h2, h3, h4, h5, h6, h7⟩ := h
  obtain ⟨c0, c1, c2⟩ := cell_of_three h1
  clear h1 h3 h2 h4 h5
  by_cases he : e = 0
  · subst he
    rw [if_pos rfl]
    go_enter Try.func92, Try.ntmps92
    go_wp2
    go_ret2
    exact ⟨⟨0, rfl⟩, rfl⟩
  · rw [if_neg he]
    have he2 : (e == 0) = false := by simpa using he
    clear he
    go_enter Try.func92, Try.ntmps92
    go_wp2
    go_quiet (fail)
    go_wp2
    go_ret2
    exact ⟨⟨nq, rfl⟩, rfl⟩

theorem Rd.drewN {w : World} {p : Nat} {g : Option Nat} {bs : List Int} {at' : Nat} {e : Int} (h : Rd w p g bs at' e) (n : Nat) : Rd (w.drewN n) p g bs at' e := by
  obtain ⟨v, h1, h2, h3, h4⟩ := h
  exact ⟨v, by rw [heap_drewN]; exact h1, h2, h3.drewN n, h4⟩

theorem drewN_drewN (w : World) (n m : Nat) : (w.drewN n).drewN m = w.drewN (n + m) := by
  simp [World.drewN, Nat.add_assoc]

/-- What End answers. -/
def endZ (len : Nat) (at' : Nat) (e : Int) : Int := if e = 0 then (if at' < len then 3 else 0) else e

set_option maxRecDepth 100000 in
set_option maxHeartbeats 800000 in
theorem end_any (p : Nat) (g : Option Nat) (bs : List Int) (at' : Nat) (e : Int) (w : World) (h : Rd w p g bs at' e) :
    Calls Try.prog 62 #[.pointer (some ⟨p, 0, none⟩)] w fun x w' => (∃ nq, w' = w.drewN nq) ∧ x = .returned (.int .i64 (endZ bs.length at' e)) := by
  have hat : at' ≤ bs.length := by obtain ⟨_, _, _, _, _, _, h, _⟩ := h; exact h
  by_cases he : e = 0
  · subst he
    by_cases hl : at' < bs.length
    · have hr : endZ bs.length at' 0 = 3 := by unfold endZ; rw [if_pos rfl, if_pos hl]
      rw [hr]
      clear hr
      have HE := hid (rerr_any p g bs at' 0 w h)
      have HL := hid (fun n => left_any p g bs at' 0 _ (h.drewN n))
      clear h
      go_enter Try.func62, Try.ntmps62
      go_wp2_with fail
      refine HE.out.mono ?_
      rintro x w' ⟨⟨nq, rfl⟩, rfl⟩
      go_wp2_with fail
      refine (HL.out nq).mono ?_
      rintro x w' ⟨⟨nq2, rfl⟩, rfl⟩
      rw [drewN_drewN]
      go_wp2
      go_ret
      exact ⟨⟨_, rfl⟩, rfl⟩
    · have hr : endZ bs.length at' 0 = 0 := by unfold endZ; rw [if_pos rfl, if_neg hl]
      rw [hr]
      clear hr
      have HE := hid (rerr_any p g bs at' 0 w h)
      have HL := hid (fun n => left_any p g bs at' 0 _ (h.drewN n))
      clear h
      go_enter Try.func62, Try.ntmps62
      go_wp2_with fail
      refine HE.out.mono ?_
      rintro x w' ⟨⟨nq, rfl⟩, rfl⟩
      go_wp2_with fail
      refine (HL.out nq).mono ?_
      rintro x w' ⟨⟨nq2, rfl⟩, rfl⟩
      rw [drewN_drewN]
      go_wp2
      go_ret
      exact ⟨⟨_, rfl⟩, rfl⟩
  · have hr : endZ bs.length at' e = e := by unfold endZ; rw [if_neg he]
    rw [hr]
    clear hr
    have he2 : (e == 0) = false := by simpa using he
    have HE := hid (rerr_any p g bs at' e w h)
    clear h
    go_enter Try.func62, Try.ntmps62
    go_wp2_with fail
    refine HE.out.mono ?_
    rintro x w' ⟨⟨nq, rfl⟩, rfl⟩
    go_wp2
    go_ret
    exact ⟨⟨_, rfl⟩, rfl⟩

set_option maxRecDepth 100000 in
set_option maxHeartbeats 800000 in
theorem read_any (v : Value) (bs : List Int) (w : World) (h : Sl w v bs) (ho : Oct bs) (hl : bs.length ≤ 1000000000) :
    Calls Try.prog 58 #[v] w fun x w' => ∃ p, x = .returned (.pointer (some ⟨p, 0, none⟩)) ∧ w.heap.size < p ∧ Rd w' p (some w.heap.size) bs 0 0 ∧ Below w.heap.size w w' := by
  have HC := hid (clone_any v bs w h hl)
  go_enter Try.func58, Try.ntmps58
  go_wp2_with fail
  refine HC.out.mono ?_
  rintro x w1 ⟨rfl, hown, hb⟩
  have HO := hid hown
  have hlt : w.heap.size < w1.heap.size := (Array.getElem?_eq_some_iff.1 hown).1
  clear hown
  go_wp2
  go_ret
  refine ⟨w1.heap.size, rfl, hlt, ?_, hb.alloc (by omega) _⟩
  have hk : Kept (fun _ => False) w1 (w1.alloc (.cells #[.slice (some ⟨w.heap.size, 0, none⟩) bs.length bs.length, .int .i64 0, .int .i64 0] 119)) := (Kept.refl _ _).alloc _
  refine ⟨_, heap_alloc_new w1 _, rfl, ?_, ?_, ho, Nat.zero_le _, hl⟩
  · exact (sl_of_owns (HO.out.owns (B := 0) (Nat.zero_le _) (by unfold maxLen; omega))).kept hk (fun _ _ h => h)
  · simp; omega

end Go.Proofs.Ytiammlngbejhkaa
