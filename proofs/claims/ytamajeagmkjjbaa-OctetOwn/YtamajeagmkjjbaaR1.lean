import Derived.Test.YtamajeagmkjjbaaSl
namespace Go.Proofs.Ytamajeagmkjjbaa
open Go.RowKit

/-- All are bytes. -/
def Oct (bs : List Int) : Prop := ∀ x ∈ bs, 0 ≤ x ∧ x < 256

/-- The row of sevens that a list begins with: number, length, error. -/
def rowGo (last : Nat) (top : Int) : List Int → Nat → Int → Int × Int × Int
  | [], _, _ => (0, 0, 2)
  | c :: cs, i, u =>
    if i + 1 = last ∧ top < c then (0, 0, 15)
    else if 128 ≤ c then rowGo last top cs (i + 1) (u + c % 128 * 128 ^ i)
    else if 0 < i ∧ c = 0 then (0, 0, 3)
    else (u + c % 128 * 128 ^ i, (i : Int) + 1, 0)

/-- The number of bytes, the lowest first. -/
def leZ : List Int → Int
  | [] => 0
  | c :: cs => c + 256 * leZ cs

theorem leZ_snoc (l : List Int) (c : Int) : leZ (l ++ [c]) = leZ l + c * 256 ^ l.length := by
  induction l with
  | nil => simp [leZ]
  | cons a l ih =>
    simp only [List.cons_append, leZ, ih, List.length_cons, Int.pow_succ]
    rw [Int.mul_add, Int.mul_comm 256 (c * 256 ^ l.length), Int.mul_assoc, Int.add_assoc]

theorem leZ_bd (l : List Int) (h : Oct l) : 0 ≤ leZ l ∧ leZ l < 256 ^ l.length := by
  induction l with
  | nil => simp [leZ]
  | cons a l ih =>
    have h1 := ih (fun x hx => h x (List.mem_cons_of_mem _ hx))
    have h2 := h a (List.mem_cons_self ..)
    simp only [leZ, List.length_cons, Int.pow_succ]
    omega

theorem take_snoc (l : List Int) (k : Nat) (h : k < l.length) : l.take (k + 1) = l.take k ++ [l[k]] := by
  rw [List.take_succ_eq_append_getElem h]

theorem pow_le8 (k : Nat) (h : k ≤ 8) : (256 : Int) ^ k ≤ 18446744073709551616 := by
  match k, h with
  | 0, _ | 1, _ | 2, _ | 3, _ | 4, _ | 5, _ | 6, _ | 7, _ | 8, _ => decide

/-- One more byte. -/
theorem le_step (u c : Int) (k : Nat) (hk : k < 8) (hu0 : 0 ≤ u) (hu : u < 256 ^ k) (hc0 : 0 ≤ c) (hc : c < 256) :
    bits .or .u64 u (IntKind.u64.wrap (c * 2 ^ (8 * k))) = u + c * 256 ^ k := by
  have e : (2 : Int) ^ (8 * k) = 256 ^ k := by rw [Int.pow_mul]; rfl
  have hp : (0 : Int) < 256 ^ k := Int.pow_pos (by omega)
  have h8 := pow_le8 (k + 1) (by omega)
  rw [Int.pow_succ] at h8
  have hb : c * 256 ^ k ≤ 255 * 256 ^ k := Int.mul_le_mul_of_nonneg_right (by omega) (by omega)
  have hn : 0 ≤ c * 256 ^ k := Int.mul_nonneg hc0 (by omega)
  rw [e, IntKind.wrap_u64, Int.emod_eq_of_lt hn (by omega)]
  refine or_u64 u (c * 256 ^ k) (8 * k) hu0 ?_ hn ?_ ?_ ?_
  · rw [Int.pow_mul]; exact hu
  · rw [Int.pow_mul]; exact Int.mul_emod_left c (256 ^ k)
  · have := pow_le8 k (by omega); omega
  · omega

set_option maxRecDepth 100000 in
set_option maxHeartbeats 800000 in
theorem fixed_any (v : Value) (bs : List Int) (n : Int) (w : World) (h : Sl w v bs) (ho : Oct bs) (hl : bs.length ≤ 1000000000) :
    Calls Try.prog 61 #[v, .int .i64 n] w fun x w' => w' = w ∧ x = .returned (if n < 0 ∨ 8 < n then .tuple #[.int .u64 0, .int .i64 0, .int .i64 1] else if (bs.length : Int) < n then .tuple #[.int .u64 0, .int .i64 0, .int .i64 2] else .tuple #[.int .u64 (leZ (bs.take n.toNat)), .int .i64 n, .int .i64 0]) := by
  obtain ⟨ao, cap, rfl, hc, hx⟩ := h
  by_cases hn : n < 0 ∨ 8 < n
  · rw [if_pos hn]
    rcases hn with hn | hn
    · clear hx
      go_enter Try.func61, Try.ntmps61
      go_wp2
      go_ret3
      exact ⟨rfl, rfl⟩
    · have hn' : ¬ n < 0 := by omega
      clear hx
      go_enter Try.func61, Try.ntmps61
      go_wp2
      go_ret3
      exact ⟨rfl, rfl⟩
  · rw [if_neg hn]
    obtain ⟨k, rfl⟩ := Int.eq_ofNat_of_zero_le (show 0 ≤ n by omega)
    have hk8 : k ≤ 8 := by omega
    clear hn
    by_cases hs : (bs.length : Int) < (k : Int)
    · rw [if_pos hs]
      clear hx
      go_enter Try.func61, Try.ntmps61
      go_wp2
      go_ret3
      exact ⟨rfl, rfl⟩
    · rw [if_neg hs, Int.toNat_natCast]
      have Hx : Hid _ := hx
      clear hx
      go_enter Try.func61, Try.ntmps61
      go_wp2
      go_loop [7, 8, 20] (fun u _ i => ∃ j : Nat, j ≤ k ∧ i = .int .i64 j ∧ u = .int .u64 (leZ (bs.take j))) (fun _ _ i => k - (intOf i).toNat)
      case atStart => exact ⟨0, Nat.zero_le _, rfl, rfl⟩
      case round =>
        obtain ⟨j, hj, rfl, rfl⟩ := hrel
        by_cases hlt : j < k
        · obtain ⟨b, off, rfl, hcell⟩ := Hx.out (by intro e; subst e; simp at hs; omega)
          have hjl : j < bs.length := by omega
          have hcj := hcell j bs[j] (by simp [hjl])
          have hb := ho bs[j] (List.getElem_mem hjl)
          have ht := leZ_bd (bs.take j) (fun x hx => ho x (List.mem_of_mem_take hx))
          have hlen : (bs.take j).length = j := by simp; omega
          rw [hlen] at ht
          have hst := le_step (leZ (bs.take j)) bs[j] j (by omega) ht.1 ht.2 hb.1 hb.2
          have hsn : leZ (bs.take (j + 1)) = leZ (bs.take j) + bs[j] * 256 ^ j := by rw [take_snoc bs j hjl, leZ_snoc, hlen]
          obtain ⟨c, hc'⟩ : ∃ c, c = bs[j] := ⟨_, rfl⟩
          rw [← hc'] at hcj hb hst hsn
          obtain ⟨hb0, hb1⟩ := hb
          have Hs : Hid _ := hsn
          have Hst : Hid _ := hst
          have hw8 : IntKind.i64.wrap (8 * (j : Int)) = 8 * (j : Int) := by rw [IntKind.wrap_i64]; omega
          clear hc' hcell hsn hst ht hlen
          go_wp2
          go_round
          case rel => exact ⟨j + 1, by omega, by go_num, by rw [Hs.out, Hst.out]⟩
          case measure => simp [intOf]; omega
        · obtain rfl : j = k := by omega
          go_wp2
          go_ret3
          exact ⟨rfl, rfl⟩

theorem pow_le9 (k : Nat) (h : k ≤ 9) : (128 : Int) ^ k ≤ 9223372036854775808 := by
  match k, h with
  | 0, _ | 1, _ | 2, _ | 3, _ | 4, _ | 5, _ | 6, _ | 7, _ | 8, _ | 9, _ => decide

/-- One more seven. -/
theorem seven_step (u c : Int) (k : Nat) (hk : k ≤ 9) (hu0 : 0 ≤ u) (hu : u < 128 ^ k) (hc0 : 0 ≤ c) (hc : c < 128) (h9 : k = 9 → c ≤ 1) :
    bits .or .u64 u (IntKind.u64.wrap (c * 2 ^ (7 * k))) = u + c * 128 ^ k := by
  have e : (2 : Int) ^ (7 * k) = 128 ^ k := by rw [Int.pow_mul]; rfl
  have hp : (0 : Int) < 128 ^ k := Int.pow_pos (by omega)
  have hn : 0 ≤ c * 128 ^ k := Int.mul_nonneg hc0 (by omega)
  have hlt : c * 128 ^ k < 18446744073709551616 := by
    by_cases h : k = 9
    · subst h
      have := h9 rfl
      have h1 : c * 128 ^ 9 ≤ 1 * 128 ^ 9 := Int.mul_le_mul_of_nonneg_right this (by omega)
      omega
    · have h8 := pow_le9 (k + 1) (by omega)
      rw [Int.pow_succ] at h8
      have hb : c * 128 ^ k ≤ 127 * 128 ^ k := Int.mul_le_mul_of_nonneg_right (by omega) (by omega)
      omega
  rw [e, IntKind.wrap_u64, Int.emod_eq_of_lt hn hlt]
  refine or_u64 u (c * 128 ^ k) (7 * k) hu0 ?_ hn ?_ ?_ hlt
  · rw [Int.pow_mul]; exact hu
  · rw [Int.pow_mul]; exact Int.mul_emod_left c (128 ^ k)
  · have := pow_le9 k hk; omega

theorem seven_bd (u c : Int) (k : Nat) (hu0 : 0 ≤ u) (hu : u < 128 ^ k) (hc0 : 0 ≤ c) (hc : c < 128) : 0 ≤ u + c * 128 ^ k ∧ u + c * 128 ^ k < 128 ^ (k + 1) := by
  have hp : (0 : Int) < 128 ^ k := Int.pow_pos (by omega)
  have hn : 0 ≤ c * 128 ^ k := Int.mul_nonneg hc0 (by omega)
  have hb : c * 128 ^ k ≤ 127 * 128 ^ k := Int.mul_le_mul_of_nonneg_right (by omega) (by omega)
  rw [Int.pow_succ]
  omega

/-- A tuple of three. -/
def tup3 (x : Int × Int × Int) : Value := .tuple #[.int .u64 x.1, .int .i64 x.2.1, .int .i64 x.2.2]

theorem rowGo_at (last : Nat) (top : Int) (bs : List Int) (j : Nat) (u : Int) (h : j < bs.length) :
    rowGo last top (bs.drop j) j u = if j + 1 = last ∧ top < bs[j] then (0, 0, 15)
    else if 128 ≤ bs[j] then rowGo last top (bs.drop (j + 1)) (j + 1) (u + bs[j] % 128 * 128 ^ j)
    else if 0 < j ∧ bs[j] = 0 then (0, 0, 3)
    else (u + bs[j] % 128 * 128 ^ j, (j : Int) + 1, 0) := by
  rw [List.drop_eq_getElem_cons h, rowGo]

set_option maxRecDepth 100000 in
set_option maxHeartbeats 1600000 in
theorem row_any (v : Value) (bs : List Int) (last : Nat) (top : Int) (w : World) (h : Sl w v bs) (ho : Oct bs) (hl : bs.length ≤ 1000000000) (hl1 : 1 ≤ last) (hl2 : last ≤ 10) (ht0 : 0 ≤ top) (ht : top < 128) (ht1 : last = 10 → top ≤ 1) :
    Calls Try.prog 62 #[v, .int .i64 last, .int .u8 top] w fun x w' => w' = w ∧ x = .returned (tup3 (rowGo last top bs 0 0)) := by
  obtain ⟨ao, cap, rfl, hc, hx⟩ := h
  have Hx : Hid _ := hx
  clear hx
  go_enter Try.func62, Try.ntmps62
  go_wp2
  go_loop [9, 10, 11, 14] (fun u _ _ i => ∃ (j : Nat) (y : Int), j ≤ bs.length ∧ j < last ∧ i = .int .i64 j ∧ u = .int .u64 y ∧ 0 ≤ y ∧ Hid (y < 128 ^ j) ∧ Hid (rowGo last top (bs.drop j) j y = rowGo last top bs 0 0)) (fun _ _ _ i => bs.length - (intOf i).toNat)
  case atStart => exact ⟨0, 0, Nat.zero_le _, by omega, rfl, rfl, by omega, (show (0 : Int) < 128 ^ 0 by decide), (show _ = _ from rfl)⟩
  case round =>
    obtain ⟨j, y, hj, hjl, rfl, rfl, hy0, hy1, hgo⟩ := hrel
    by_cases hlt : j < bs.length
    · obtain ⟨b, off, rfl, hcell⟩ := Hx.out (by intro e; subst e; simp at hlt)
      have hcj := hcell j bs[j] (by simp [hlt])
      have hb := ho bs[j] (List.getElem_mem hlt)
      have hat := rowGo_at last top bs j y hlt
      rw [hgo.out] at hat
      obtain ⟨c, hc'⟩ : ∃ c, c = bs[j] := ⟨_, rfl⟩
      rw [← hc'] at hcj hb hat
      obtain ⟨hb0, hb1⟩ := hb
      have Ha : Hid _ := hat
      have a1 := and127_u8 c hb0 hb1
      have a2 := and128_u8 c hb0 hb1
      have hw8 : IntKind.i64.wrap (7 * (j : Int)) = 7 * (j : Int) := by rw [IntKind.wrap_i64]; omega
      clear hc' hcell hat hgo
      by_cases hr : j + 1 = last ∧ top < c
      · have hres : rowGo last top bs 0 0 = (0, 0, 15) := by rw [Ha.out, if_pos hr]
        have Hres : Hid _ := hres
        obtain ⟨hr1, hr2⟩ := hr
        have hr3 : (j : Int) + 1 = (last : Int) := by omega
        clear hres
        go_wp2
        go_ret3
        exact ⟨rfl, by rw [Hres.out]; rfl⟩
      · by_cases hc8 : 128 ≤ c
        · have hst : Hid _ := seven_step y (c % 128) j (by omega) hy0 hy1 (by omega) (by omega) (by omega)
          have hbd : Hid _ := seven_bd y (c % 128) j hy0 hy1 (by omega) (by omega)
          have hres : rowGo last top bs 0 0 = rowGo last top (bs.drop (j + 1)) (j + 1) (y + c % 128 * 128 ^ j) := by rw [Ha.out, if_neg hr, if_pos hc8]
          have Hres : Hid _ := hres
          have a3 : c / 128 * 128 = 128 := by omega
          clear hres
          go_wp2
          go_round
          case rel => exact ⟨j + 1, y + c % 128 * 128 ^ j, by omega, by omega, by go_num, by rw [hst.out], hbd.out.1, hbd.out.2, (show _ = _ from Hres.out.symm)⟩
          case measure => simp [intOf]; omega
        · have hst : Hid _ := seven_step y (c % 128) j (by omega) hy0 hy1 (by omega) (by omega) (by omega)
          have a3 : c / 128 * 128 = 0 := by omega
          by_cases hz : 0 < j ∧ c = 0
          · have hres : rowGo last top bs 0 0 = (0, 0, 3) := by rw [Ha.out, if_neg hr, if_neg hc8, if_pos hz]
            have Hres : Hid _ := hres
            obtain ⟨hz1, hz2⟩ := hz
            clear hres
            by_cases hr1 : (j : Int) + 1 = (last : Int)
            · go_wp2
              go_ret3
              exact ⟨rfl, by rw [Hres.out]; rfl⟩
            · go_wp2
              go_ret3
              exact ⟨rfl, by rw [Hres.out]; rfl⟩
          · have hres : rowGo last top bs 0 0 = (y + c % 128 * 128 ^ j, (j : Int) + 1, 0) := by rw [Ha.out, if_neg hr, if_neg hc8, if_neg hz]
            have Hres : Hid _ := hres
            clear hres
            by_cases hr1 : (j : Int) + 1 = (last : Int)
            · by_cases hj0 : 0 < j
              · have hz2 : ¬ c = 0 := by omega
                go_wp2
                go_ret3
                exact ⟨rfl, by rw [Hres.out, ← hst.out, hr1]; rfl⟩
              · go_wp2
                go_ret3
                exact ⟨rfl, by rw [Hres.out, ← hst.out, hr1]; rfl⟩
            · by_cases hj0 : 0 < j
              · have hz2 : ¬ c = 0 := by omega
                go_wp2
                go_ret3
                exact ⟨rfl, by rw [Hres.out, ← hst.out]; rfl⟩
              · go_wp2
                go_ret3
                exact ⟨rfl, by rw [Hres.out, ← hst.out]; rfl⟩
    · have hres : rowGo last top bs 0 0 = (0, 0, 2) := by
        rw [← hgo.out, List.drop_eq_nil_of_le (by omega)]; rfl
      have Hres : Hid _ := hres
      clear hres hgo
      go_wp2
      go_ret3
      exact ⟨rfl, by rw [Hres.out]; rfl⟩

end Go.Proofs.Ytamajeagmkjjbaa
