import Derived.Test.YtamajeagmkjjbaaRR1
namespace Go.Proofs.Ytamajeagmkjjbaa
open Go.RowKit

/-- What the document's 'row' answers. -/
def rrowZ (most : Nat) (last : Int) (bs : List Int) (at' : Nat) : Int × Int × Int :=
  ((rowGo most last (bs.drop at') 0 0).1, if (rowGo most last (bs.drop at') 0 0).2.2 = 0 then (at' : Int) + (rowGo most last (bs.drop at') 0 0).2.1 else 0, (rowGo most last (bs.drop at') 0 0).2.2)

def tup3i (x : Int × Int × Int) : Value := .tuple #[.int .u64 x.1, .int .i64 x.2.1, .int .i64 x.2.2]

theorem pow128_8 (k : Nat) (h : k ≤ 8) : (128 : Int) ^ k ≤ 72057594037927936 := by
  match k, h with
  | 0, _ | 1, _ | 2, _ | 3, _ | 4, _ | 5, _ | 6, _ | 7, _ | 8, _ => decide

theorem seven_fit (u c : Int) (k : Nat) (hk : k ≤ 9) (hu0 : 0 ≤ u) (hu : u < 128 ^ k) (hc0 : 0 ≤ c) (hc : c < 128) (h9 : k = 9 → c ≤ 1) :
    0 ≤ c * 128 ^ k ∧ c * 128 ^ k < 18446744073709551616 ∧ u + c * 128 ^ k < 18446744073709551616 := by
  have hp : (0 : Int) < 128 ^ k := Int.pow_pos (by omega)
  have hn : 0 ≤ c * 128 ^ k := Int.mul_nonneg hc0 (by omega)
  by_cases h : k = 9
  · subst h
    have := h9 rfl
    have h1 : c * 128 ^ 9 ≤ 1 * 128 ^ 9 := Int.mul_le_mul_of_nonneg_right this (by omega)
    have e : (128 : Int) ^ 9 = 9223372036854775808 := by decide
    omega
  · have h8 := pow128_8 k (by omega)
    have hb : c * 128 ^ k ≤ 127 * 128 ^ k := Int.mul_le_mul_of_nonneg_right (by omega) (by omega)
    omega

theorem below_drewN' (w : World) (n B : Nat) : Below B w (w.drewN n) := ⟨rfl, rfl, rfl, Nat.le_refl _, fun _ _ => rfl⟩

theorem rowGo_at' (last : Nat) (top : Int) (bs : List Int) (at' j : Nat) (u : Int) (h : at' + j < bs.length) :
    rowGo last top (bs.drop (at' + j)) j u = if j + 1 = last ∧ top < bs[at' + j] then (0, 0, 15)
    else if 128 ≤ bs[at' + j] then rowGo last top (bs.drop (at' + (j + 1))) (j + 1) (u + bs[at' + j] % 128 * 128 ^ j)
    else if 0 < j ∧ bs[at' + j] = 0 then (0, 0, 3)
    else (u + bs[at' + j] % 128 * 128 ^ j, (j : Int) + 1, 0) := by
  rw [List.drop_eq_getElem_cons h, rowGo]
  rfl

set_option maxRecDepth 100000 in
set_option maxHeartbeats 1600000 in
theorem rrow_any (v : Value) (bs : List Int) (at' : Nat) (e st : Int) (most : Nat) (last : Int) (w : World) (h : Sl w v bs) (ho : Oct bs) (hl : bs.length ≤ 1000000000) (ha : at' ≤ bs.length) (hl1 : 1 ≤ most) (hl2 : most ≤ 10) (ht0 : 0 ≤ last) (ht : last < 128) (ht1 : most = 10 → last ≤ 1) :
    Calls Try.prog 59 #[.agg #[v, .int .i64 at', .int .i64 e, .int .i64 st], .int .i64 most, .int .u8 last] w fun x w' => x = .returned (tup3i (rrowZ most last bs at')) ∧ Below w.heap.size w w' := by
  obtain ⟨ao, cap, rfl, hc, hx⟩ := h
  have Hx := hid hx
  clear hx
  obtain ⟨Z, hZ⟩ : ∃ Z, Z = rrowZ most last bs at' := ⟨_, rfl⟩
  rw [← hZ]
  have HZ := hid hZ
  clear hZ
  have hb0 : ∀ X : Obj, Below w.heap.size w (w.alloc X) := fun X => (Below.refl _ _).alloc (Nat.le_refl _) _
  have Hb := hid hb0
  clear hb0
  go_enter Try.func59, Try.ntmps59
  go_wp2
  go_loop [9, 10, 11, 12, 13] (fun u i _ _ _ => ∃ (j : Nat) (y : Int), at' + j ≤ bs.length ∧ j < most ∧ i = .int .i64 j ∧ u = .int .u64 y ∧ 0 ≤ y ∧ y < 18446744073709551616 ∧ Hid (y < 128 ^ j) ∧ Hid (rowGo most last (bs.drop (at' + j)) j y = rowGo most last (bs.drop at') 0 0)) (fun _ i _ _ _ => most - (intOf i).toNat)
  case atStart => exact ⟨0, 0, by omega, by omega, rfl, rfl, by omega, by omega, hid (by decide), hid rfl⟩
  case round =>
    obtain ⟨j, y, hj, hjl, rfl, rfl, hy0, hy2, hy1, hgo⟩ := hrel
    by_cases hlt : at' + j < bs.length
    · obtain ⟨b, off, rfl, hcell⟩ := Hx.out (by intro e; subst e; simp at hlt)
      have hcj := hcell (at' + j) bs[at' + j] (by simp [hlt])
      have hbl := World.block_lt_of_cell? _ _ hcj
      have hb := ho bs[at' + j] (List.getElem_mem hlt)
      have hat := rowGo_at' most last bs at' j y hlt
      rw [hgo.out] at hat
      obtain ⟨c, hc'⟩ : ∃ c, c = bs[at' + j] := ⟨_, rfl⟩
      rw [← hc'] at hcj hb hat
      obtain ⟨hb0, hb1⟩ := hb
      have Ha := hid hat
      have hi3 : (at' : Int) + (j : Int) < (bs.length : Int) := by omega
      clear hc' hcell hat hgo
      by_cases hr : j + 1 = most ∧ last < c
      · have Hres := hid (show rowGo most last (bs.drop at') 0 0 = (0, 0, 15) by rw [Ha.out, if_pos hr])
        obtain ⟨hr1, hr2⟩ := hr
        have hr3 : ((j : Int) == (most : Int) - 1) = true := by simp; omega
        clear hr1
        go_wp2
        go_ret3
        refine ⟨?_, Hb.out _⟩
        rw [HZ.out]
        unfold rrowZ
        rw [Hres.out]
        rfl
      · have hfit := seven_fit y (c % 128) j (by omega) hy0 hy1 (by omega) (by omega) (by omega)
        obtain ⟨P, hP⟩ : ∃ P : Int, P = 128 ^ j := ⟨_, rfl⟩
        rw [← hP] at hfit Ha
        obtain ⟨f0, f1, f2⟩ := hfit
        have hw1 : IntKind.u64.wrap (c % 128 * P) = c % 128 * P := by rw [IntKind.wrap_u64]; omega
        have hw2 : IntKind.u64.wrap (y + c % 128 * P) = y + c % 128 * P := by rw [IntKind.wrap_u64]; omega
        have HP := hid hP
        have hbd := hid (seven_bd y (c % 128) j hy0 hy1 (by omega) (by omega))
        clear hP
        by_cases hr1 : (j : Int) = (most : Int) - 1
        · have hr3 : ((j : Int) == (most : Int) - 1) = true := by simpa using hr1
          have hcl : c ≤ last := by omega
          have hr4 : ¬ ((j : Int) + 1 < most) := by omega
          clear hr1
          go_wp2
          go_loop [12, 13] (fun s k => ∃ (m : Nat) (q : Int), m ≤ j ∧ k = .int .i64 m ∧ s = .int .u64 q ∧ 0 ≤ q ∧ q ≤ 9223372036854775808 ∧ Hid (q = 128 ^ m)) (fun _ k => j - (intOf k).toNat)
          case atStart => exact ⟨0, 1, by omega, rfl, rfl, by omega, by omega, hid rfl⟩
          case round =>
            obtain ⟨m, q, hm, rfl, rfl, hq0, hq1, hq⟩ := hrel
            by_cases hml : m < j
            · have h8 := pow128_8 m (by omega)
              rw [← hq.out] at h8
              go_wp2
              go_round
              case rel => exact ⟨m + 1, q * 128, by omega, by go_num, by first | rfl | go_num, by omega, by omega, hid (by rw [hq.out, Int.pow_succ])⟩
              case measure => simp [intOf]; omega
            · obtain rfl : m = j := by omega
              obtain rfl : q = P := by rw [hq.out, HP.out]
              by_cases hc8 : 128 ≤ c
              · exfalso; omega
              · by_cases hz : 0 < m ∧ c = 0
                · have Hres := hid (show rowGo most last (bs.drop at') 0 0 = (0, 0, 3) by rw [Ha.out, if_neg hr, if_neg hc8, if_pos hz])
                  obtain ⟨hz1, hz2⟩ := hz
                  clear hr
                  go_wp2
                  go_ret3
                  refine ⟨?_, Hb.out _⟩
                  rw [HZ.out]
                  unfold rrowZ
                  rw [Hres.out]
                  rfl
                · have Hres := hid (show rowGo most last (bs.drop at') 0 0 = (y + c % 128 * q, (m : Int) + 1, 0) by rw [Ha.out, if_neg hr, if_neg hc8, if_neg hz])
                  clear hr
                  by_cases hj0 : 0 < m
                  · have hz2 : ¬ c = 0 := by omega
                    clear hz
                    go_wp2
                    go_quiet (fail)
                    go_wp2
                    go_ret3
                    refine ⟨?_, (Hb.out _).trans (below_drewN' _ _ _)⟩
                    rw [HZ.out]
                    unfold rrowZ
                    rw [Hres.out]
                    simp [tup3i, Int.add_assoc]
                  · clear hz
                    go_wp2
                    go_quiet (fail)
                    go_wp2
                    go_ret3
                    refine ⟨?_, (Hb.out _).trans (below_drewN' _ _ _)⟩
                    rw [HZ.out]
                    unfold rrowZ
                    rw [Hres.out]
                    simp [tup3i, Int.add_assoc]
        · have hr2 : ((j : Int) == (most : Int) - 1) = false := by simpa using hr1
          have hr4 : (j : Int) + 1 < most := by omega
          clear hr1
          go_wp2
          go_loop [12, 13] (fun s k => ∃ (m : Nat) (q : Int), m ≤ j ∧ k = .int .i64 m ∧ s = .int .u64 q ∧ 0 ≤ q ∧ q ≤ 9223372036854775808 ∧ Hid (q = 128 ^ m)) (fun _ k => j - (intOf k).toNat)
          case atStart => exact ⟨0, 1, by omega, rfl, rfl, by omega, by omega, hid rfl⟩
          case round =>
            obtain ⟨m, q, hm, rfl, rfl, hq0, hq1, hq⟩ := hrel
            by_cases hml : m < j
            · have h8 := pow128_8 m (by omega)
              rw [← hq.out] at h8
              go_wp2
              go_round
              case rel => exact ⟨m + 1, q * 128, by omega, by go_num, by first | rfl | go_num, by omega, by omega, hid (by rw [hq.out, Int.pow_succ])⟩
              case measure => simp [intOf]; omega
            · obtain rfl : m = j := by omega
              obtain rfl : q = P := by rw [hq.out, HP.out]
              by_cases hc8 : 128 ≤ c
              · have Hres := hid (show rowGo most last (bs.drop at') 0 0 = rowGo most last (bs.drop (at' + (m + 1))) (m + 1) (y + c % 128 * q) by rw [Ha.out, if_neg hr, if_pos hc8])
                have hr9 : m + 1 < most := by omega
                clear hr
                go_wp2
                go_round
                case rel => exact ⟨m + 1, y + c % 128 * q, by omega, by omega, by go_num, by first | rfl | go_num, by omega, by omega, hid (by rw [HP.out]; exact hbd.out.2), hid Hres.out.symm⟩
                case measure => simp [intOf]; omega
              · by_cases hz : 0 < m ∧ c = 0
                · have Hres := hid (show rowGo most last (bs.drop at') 0 0 = (0, 0, 3) by rw [Ha.out, if_neg hr, if_neg hc8, if_pos hz])
                  obtain ⟨hz1, hz2⟩ := hz
                  clear hr
                  go_wp2
                  go_ret3
                  refine ⟨?_, Hb.out _⟩
                  rw [HZ.out]
                  unfold rrowZ
                  rw [Hres.out]
                  rfl
                · have Hres := hid (show rowGo most last (bs.drop at') 0 0 = (y + c % 128 * q, (m : Int) + 1, 0) by rw [Ha.out, if_neg hr, if_neg hc8, if_neg hz])
                  clear hr
                  by_cases hj0 : 0 < m
                  · have hz2 : ¬ c = 0 := by omega
                    clear hz
                    go_wp2
                    go_quiet (fail)
                    go_wp2
                    go_ret3
                    refine ⟨?_, (Hb.out _).trans (below_drewN' _ _ _)⟩
                    rw [HZ.out]
                    unfold rrowZ
                    rw [Hres.out]
                    simp [tup3i, Int.add_assoc]
                  · clear hz
                    go_wp2
                    go_quiet (fail)
                    go_wp2
                    go_ret3
                    refine ⟨?_, (Hb.out _).trans (below_drewN' _ _ _)⟩
                    rw [HZ.out]
                    unfold rrowZ
                    rw [Hres.out]
                    simp [tup3i, Int.add_assoc]
    · have Hres := hid (show rowGo most last (bs.drop at') 0 0 = (0, 0, 2) by rw [← hgo.out, List.drop_eq_nil_of_le (by omega)]; rfl)
      have hge : (bs.length : Int) ≤ (at' : Int) + (j : Int) := by omega
      clear hgo
      go_wp2
      go_ret3
      refine ⟨?_, Hb.out _⟩
      rw [HZ.out]
      unfold rrowZ
      rw [Hres.out]
      rfl

end Go.Proofs.Ytamajeagmkjjbaa
