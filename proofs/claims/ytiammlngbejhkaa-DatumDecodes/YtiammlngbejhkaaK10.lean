import Derived.Test.YtiammlngbejhkaaK06
namespace Go.Proofs.Ytiammlngbejhkaa
open Go.RowKit

/-- A Reader of the document, as a value. -/
def rrV (v : Value) (at' e st : Int) : Value := .agg #[v, .int .i64 at', .int .i64 e, .int .i64 st]

set_option maxRecDepth 100000 in
set_option maxHeartbeats 800000 in
theorem rends_any (ao : Option Addr) (n c : Nat) (at' e st e2 : Int) (w : World) :
    Calls Try.prog 94 #[.agg #[.slice ao n c, .int .i64 at', .int .i64 e, .int .i64 st], .int .i64 e2] w fun x w' => x = .returned (.agg #[.slice ao n c, .int .i64 at', .int .i64 e2, .int .i64 at']) ∧ Below w.heap.size w w' := by
  go_enter Try.func94, Try.ntmps94
  go_wp2
  refine bodyPost_ret (v := .agg #[.slice ao n c, .int .i64 at', .int .i64 e2, .int .i64 at']) (by simp [results, Try.results94, go_sem]) rfl ?_
  exact ⟨rfl, ((Below.refl _ _).alloc (Nat.le_refl _) _).alloc (by simp) _⟩

set_option maxRecDepth 100000 in
set_option maxHeartbeats 800000 in
theorem rread_any (ao : Option Addr) (n c : Nat) (w : World) :
    Calls Try.prog 63 #[.slice ao n c] w fun x w' => x = .returned (.agg #[.slice ao n c, .int .i64 0, .int .i64 0, .int .i64 0]) ∧ Below w.heap.size w w' := by
  go_enter Try.func63, Try.ntmps63
  go_wp2
  refine bodyPost_ret (v := .agg #[.slice ao n c, .int .i64 0, .int .i64 0, .int .i64 0]) (by simp [results, Try.results63, go_sem]) rfl ?_
  exact ⟨rfl, (Below.refl _ _).alloc (Nat.le_refl _) _⟩

set_option maxRecDepth 100000 in
set_option maxHeartbeats 800000 in
theorem rend_any (ao : Option Addr) (n c at' : Nat) (e st : Int) (w : World) (_hn : n ≤ 1000000000) (_ha : at' ≤ n) :
    Calls Try.prog 67 #[.agg #[.slice ao n c, .int .i64 at', .int .i64 e, .int .i64 st]] w fun x w' => x = .returned (.int .i64 (endZ n at' e)) ∧ Below w.heap.size w w' := by
  unfold endZ
  by_cases he : e = 0
  · subst he
    rw [if_pos rfl]
    by_cases hl : at' < n
    · rw [if_pos hl]
      go_enter Try.func67, Try.ntmps67
      go_wp2
      go_ret
      exact ⟨rfl, (Below.refl _ _).alloc (Nat.le_refl _) _⟩
    · rw [if_neg hl]
      go_enter Try.func67, Try.ntmps67
      go_wp2
      go_ret
      exact ⟨rfl, (Below.refl _ _).alloc (Nat.le_refl _) _⟩
  · rw [if_neg he]
    have he2 : (e == 0) = false := by simpa using he
    go_enter Try.func67, Try.ntmps67
    go_wp2
    go_ret
    exact ⟨rfl, (Below.refl _ _).alloc (Nat.le_refl _) _⟩

/-- What a taking call of the document leaves: the answer 'res', and the Reader. -/
def RRPost (w : World) (v : Value) (z : (Int × List Int) × Nat × Int) (res : Value) (x : Ending) (w' : World) : Prop :=
  ∃ st2 : Int, x = .returned (.tuple #[res, .agg #[v, .int .i64 z.2.1, .int .i64 z.2.2, .int .i64 st2]]) ∧ (z.2.2 ≠ 0 → st2 = z.2.1) ∧ Below w.heap.size w w'

theorem cell_of_four {w : World} {p : Nat} {a b c d : Value} {t : TypeId} (h : w.heap[p]? = some (.cells #[a, b, c, d] t (0, 0))) : w.cell? ⟨p, 0, none⟩ = some a ∧ w.cell? ⟨p, 1, none⟩ = some b ∧ w.cell? ⟨p, 2, none⟩ = some c ∧ w.cell? ⟨p, 3, none⟩ = some d := by
  refine ⟨?_, ?_, ?_, ?_⟩
  · rw [cell_of_row w p 0 _ t (0, 0) h]; rfl
  · rw [cell_of_row w p 1 _ t (0, 0) h]; rfl
  · rw [cell_of_row w p 2 _ t (0, 0) h]; rfl
  · rw [cell_of_row w p 3 _ t (0, 0) h]; rfl

theorem new2r (w : World) (X Y : Obj) : ((w.alloc X).alloc Y).heap[w.heap.size + 1]? = some Y ∧ ((w.alloc X).alloc Y).heap[w.heap.size]? = some X := by
  constructor
  · have := heap_alloc_new (w.alloc X) Y
    simpa using this
  · rw [Below.heap_alloc _ _ _ (by simp)]
    exact heap_alloc_new w X

theorem takeZ_stop (f n : Int) (bs : List Int) (at' : Nat) (e : Int) (he : e ≠ 0) : takeZ f n bs at' e = ((0, []), at', e) := by
  unfold takeZ; rw [if_neg he]

set_option maxRecDepth 100000 in
set_option maxHeartbeats 800000 in
theorem rtakeByte_any (v : Value) (bs : List Int) (at' : Nat) (e st : Int) (w : World) (h : Sl w v bs) (hl : bs.length ≤ 1000000000) (ha : at' ≤ bs.length) (hst : e ≠ 0 → st = at') :
    Calls Try.prog 64 #[.agg #[v, .int .i64 at', .int .i64 e, .int .i64 st]] w fun x w' => RRPost w v (takeZ 0 1 bs at' e) (.int .u8 (takeZ 0 1 bs at' e).1.1) x w' := by
  obtain ⟨ao, c, rfl, hc, hx⟩ := h
  by_cases he : e = 0
  · subst he
    by_cases hlt : at' < bs.length
    · have hz : takeZ 0 1 bs at' 0 = ((bs[at'], []), at' + 1, 0) := by
        have hd : bs.drop at' = bs[at'] :: bs.drop (at' + 1) := List.drop_eq_getElem_cons hlt
        have hle : leadZ 0 (bs.drop at') 1 = (bs[at'], 1, 0) := by
          have hln : ((bs.drop at').length : Int) = (bs.length : Int) - at' := by rw [List.length_drop]; omega
          unfold leadZ fixZ
          rw [if_pos rfl, if_neg (by omega), if_neg (by omega), hd]
          show (bs[at'] + 256 * 0, (1 : Int), (0 : Int)) = _
          rw [Int.mul_zero, Int.add_zero]
        unfold takeZ
        rw [if_pos rfl, hle]
        rfl
      rw [hz]
      obtain ⟨b, off, rfl, hj⟩ := hx (by intro e; subst e; simp at hlt)
      have hcj := hj at' bs[at'] (by simp [hlt])
      obtain ⟨y, hy⟩ : ∃ y, y = bs[at'] := ⟨_, rfl⟩
      rw [← hy] at hcj
      rw [← hy]
      have hbl := World.block_lt_of_cell? _ _ hcj
      clear hy hj hx hz hst
      go_enter Try.func64, Try.ntmps64
      go_wp2
      go_region
      all_goals go_wp2
      all_goals
        refine bodyPost_ret (v := .tuple #[.int .u8 y, .agg #[.slice (some ⟨b, off, none⟩) bs.length c, .int .i64 ((at' : Int) + 1), .int .i64 0, .int .i64 st]]) (by simp [results, Try.results64, go_sem]) rfl ?_
        exact ⟨st, by simp, fun h => absurd rfl h, (((Below.refl _ _).alloc (Nat.le_refl _) _).alloc (by simp) _).drew⟩
    · have hz : takeZ 0 1 bs at' 0 = ((0, []), at', 2) := by
        have hln : ((bs.drop at').length : Int) = 0 := by rw [List.length_drop]; omega
        have hle : leadZ 0 (bs.drop at') 1 = (0, 0, 2) := by
          unfold leadZ fixZ
          rw [if_pos rfl, if_neg (by omega), if_pos (by omega)]
        unfold takeZ
        rw [if_pos rfl, hle]
        rfl
      rw [hz]
      clear hx hz hst
      go_enter Try.func64, Try.ntmps64
      go_wp2_with (go_at_call 94; refine (rends_any ao bs.length c at' 0 st 2 _).mono ?_; rintro x w1 ⟨rfl, hb1⟩; have hq := (hb1.block (w.heap.size + 1) (by simp)).trans (new2r w _ _).1; obtain ⟨q0, q1, q2, q3⟩ := cell_of_four hq; have z0 := free_of_block (o := 0) hq; have z1 := free_of_block (o := 1) hq; have z2 := free_of_block (o := 2) hq; have z3 := free_of_block (o := 3) hq; have HB := hid hb1; clear hq hb1)
      refine bodyPost_ret (v := .tuple #[.int .u8 0, .agg #[.slice ao bs.length c, .int .i64 (at' : Int), .int .i64 2, .int .i64 (at' : Int)]]) (by simp [results, Try.results64, go_sem, q0, q1, q2, q3]) rfl ?_
      refine ⟨at', rfl, fun _ => rfl, ?_⟩
      have hb0 : ∀ X Y : Obj, Below w.heap.size w ((w.alloc X).alloc Y) := fun X Y => ((Below.refl _ _).alloc (Nat.le_refl _) _).alloc (by simp) _
      exact (((((hb0 _ _).trans (HB.out.mono (by simp; omega))).setCell (by simp) _).setCell (by simp) _).setCell (by simp) _).setCell (by simp) _
  · rw [takeZ_stop 0 1 bs at' e he]
    have he2 : (e != 0) = true := by simpa using he
    have HS := hid (hst he)
    clear hx hst
    go_enter Try.func64, Try.ntmps64
    go_wp2
    go_region
    all_goals go_wp2
    all_goals
      refine bodyPost_ret (v := .tuple #[.int .u8 0, .agg #[.slice ao bs.length c, .int .i64 (at' : Int), .int .i64 e, .int .i64 st]]) (by simp [results, Try.results64, go_sem]) rfl ?_
      exact ⟨st, rfl, fun _ => HS.out, (((Below.refl _ _).alloc (Nat.le_refl _) _).alloc (by simp) _).drew⟩

end Go.Proofs.Ytiammlngbejhkaa

namespace Go.Proofs.Ytiammlngbejhkaa
open Go.RowKit

theorem below2r (w : World) (X Y : Obj) : Below w.heap.size w ((w.alloc X).alloc Y) := ((Below.refl _ _).alloc (Nat.le_refl _) _).alloc (by simp) _

theorem leZ_drop (L : List Int) (j : Nat) (h : j < L.length) : leZ (L.drop j) = L[j] + 256 * leZ (L.drop (j + 1)) := by
  rw [List.drop_eq_getElem_cons h, leZ]

theorem pow256_7 (k : Nat) (h : k ≤ 7) : (256 : Int) ^ k ≤ 72057594037927936 := by
  match k, h with
  | 0, _ | 1, _ | 2, _ | 3, _ | 4, _ | 5, _ | 6, _ | 7, _ => decide

end Go.Proofs.Ytiammlngbejhkaa

namespace Go.Proofs.Ytiammlngbejhkaa
open Go.RowKit

/-- What the document's 'row' answers. -/
def rrowZ (most : Nat) (last : Int) (bs : List Int) (at' : Nat) : Int × Int × Int :=
  ((rowGo most last (bs.drop at') 0 0).1, if (rowGo most last (bs.drop at') 0 0).2.2 = 0 then (at' : Int) + (rowGo most last (bs.drop at') 0 0).2.1 else 0, (rowGo most last (bs.drop at') 0 0).2.2)

def tup3i (x : Int × Int × Int) : Value := .tuple #[.int .u64 x.1, .int .i64 x.2.1, .int .i64 x.2.2]

theorem pow128_8 (k : Nat) (h : k ≤ 8) : (128 : Int) ^ k ≤ 72057594037927936 := by
  match k, h with
  | 0, _ | 1, _ | 2, _ | 3, _ | 4, _ | 5, _ | 6, _ | 7, _ | 8, _ => decide

theorem seven_fit (u c : Int) (k : Nat) (hk : k ≤ 9) (hu0 : 0 ≤ u) (hu : u < 128 ^ k) (hc0 : 0 ≤ c) (hc : c < 128) (h9 : k = 9 → c ≤ 1) :
    0 ≤ c * 128 ^ k ∧ c * 128 ^ k < 18446744073709551616 ∧ u + c * 128 ^ k < 18446744073709551616 := by
  have hp : (0 : Int) < 128 ^ k := Int.pow_pos (by omega)
  have hn : 0 ≤ c * 128 ^ k := Int.mul_nonneg hc0 (by omega)
  by_cases h : k = 9
  · subst h
    have := h9 rfl
    have h1 : c * 128 ^ 9 ≤ 1 * 128 ^ 9 := Int.mul_le_mul_of_nonneg_right this (by omega)
    have e : (128 : Int) ^ 9 = 9223372036854775808 := by decide
    omega
  · have h8 := pow128_8 k (by omega)
    have hb : c * 128 ^ k ≤ 127 * 128 ^ k := Int.mul_le_mul_of_nonneg_right (by omega) (by omega)
    omega

theorem below_drewN' (w : World) (n B : Nat) : Below B w (w.drewN n) := ⟨rfl, rfl, rfl, Nat.le_refl _, fun _ _ => rfl⟩

theorem rowGo_at' (last : Nat) (top : Int) (bs : List Int) (at' j : Nat) (u : Int) (h : at' + j < bs.length) :
    rowGo last top (bs.drop (at' + j)) j u = if j + 1 = last ∧ top < bs[at' + j] then (0, 0, 15)
    else if 128 ≤ bs[at' + j] then rowGo last top (bs.drop (at' + (j + 1))) (j + 1) (u + bs[at' + j] % 128 * 128 ^ j)
    else if 0 < j ∧ bs[at' + j] = 0 then (0, 0, 3)
    else (u + bs[at' + j] % 128 * 128 ^ j, (j : Int) + 1, 0) := by
  rw [List.drop_eq_getElem_cons h, rowGo]
  rfl

set_option maxRecDepth 100000 in
set_option maxHeartbeats 1600000 in
theorem rrow_any (v : Value) (bs : List Int) (at' : Nat) (e st : Int) (most : Nat) (last : Int) (w : World) (h : Sl w v bs) (ho : Oct bs) (hl : bs.length ≤ 1000000000) (ha : at' ≤ bs.length) (hl1 : 1 ≤ most) (hl2 : most ≤ 10) (ht0 : 0 ≤ last) (ht : last < 128) (ht1 : most = 10 → last ≤ 1) :
    Calls Try.prog 95 #[.agg #[v, .int .i64 at', .int .i64 e, .int .i64 st], .int .i64 most, .int .u8 last] w fun x w' => x = .returned (tup3i (rrowZ most last bs at')) ∧ Below w.heap.size w w' := by
  obtain ⟨ao, cap, rfl, hc, hx⟩ := h
  have Hx := hid hx
  clear hx
  obtain ⟨Z, hZ⟩ : ∃ Z, Z = rrowZ most last bs at' := ⟨_, rfl⟩
  rw [← hZ]
  have HZ := hid hZ
  clear hZ
  have hb0 : ∀ X : Obj, Below w.heap.size w (w.alloc X) := fun X => (Below.refl _ _).alloc (Nat.le_refl _) _
  have Hb := hid hb0
  clear hb0
  go_enter Try.func95, Try.ntmps95
  go_wp2
  go_loop [9, 10, 11, 12, 13] (fun u i _ _ _ => ∃ (j : Nat) (y : Int), at' + j ≤ bs.length ∧ j < most ∧ i = .int .i64 j ∧ u = .int .u64 y ∧ 0 ≤ y ∧ y < 18446744073709551616 ∧ Hid (y < 128 ^ j) ∧ Hid (rowGo most last (bs.drop (at' + j)) j y = rowGo most last (bs.drop at') 0 0)) (fun _ i _ _ _ => most - (intOf i).toNat)
  case atStart => exact ⟨0, 0, by omega, by omega, rfl, rfl, by omega, by omega, hid (by decide), hid rfl⟩
  case round =>
    obtain ⟨j, y, hj, hjl, rfl, rfl, hy0, hy2, hy1, hgo⟩ := hrel
    by_cases hlt : at' + j < bs.length
    · obtain ⟨b, off, rfl, hcell⟩ := Hx.out (by intro e; subst e; simp at hlt)
      have hcj := hcell (at' + j) bs[at' + j] (by simp [hlt])
      have hbl := World.block_lt_of_cell? _ _ hcj
      have hb := ho bs[at' + j] (List.getElem_mem hlt)
      have hat := rowGo_at' most last bs at' j y hlt
      rw [hgo.out] at hat
      obtain ⟨c, hc'⟩ : ∃ c, c = bs[at' + j] := ⟨_, rfl⟩
      rw [← hc'] at hcj hb hat
      obtain ⟨hb0, hb1⟩ := hb
      have Ha := hid hat
      have hi3 : (at' : Int) + (j : Int) < (bs.length : Int) := by omega
      clear hc' hcell hat hgo
      by_cases hr : j + 1 = most ∧ last < c
      · have Hres := hid (show rowGo most last (bs.drop at') 0 0 = (0, 0, 15) by rw [Ha.out, if_pos hr])
        obtain ⟨hr1, hr2⟩ := hr
        have hr3 : ((j : Int) == (most : Int) - 1) = true := by simp; omega
        clear hr1
        go_wp2
        go_ret3
        refine ⟨?_, Hb.out _⟩
        rw [HZ.out]
        unfold rrowZ
        rw [Hres.out]
        rfl
      · have hfit := seven_fit y (c % 128) j (by omega) hy0 hy1 (by omega) (by omega) (by omega)
        obtain ⟨P, hP⟩ : ∃ P : Int, P = 128 ^ j := ⟨_, rfl⟩
        rw [← hP] at hfit Ha
        obtain ⟨f0, f1, f2⟩ := hfit
        have hw1 : IntKind.u64.wrap (c % 128 * P) = c % 128 * P := by rw [IntKind.wrap_u64]; omega
        have hw2 : IntKind.u64.wrap (y + c % 128 * P) = y + c % 128 * P := by rw [IntKind.wrap_u64]; omega
        have HP := hid hP
        have hbd := hid (seven_bd y (c % 128) j hy0 hy1 (by omega) (by omega))
        clear hP
        by_cases hr1 : (j : Int) = (most : Int) - 1
        · have hr3 : ((j : Int) == (most : Int) - 1) = true := by simpa using hr1
          have hcl : c ≤ last := by omega
          have hr4 : ¬ ((j : Int) + 1 < most) := by omega
          clear hr1
          go_wp2
          go_loop [12, 13] (fun s k => ∃ (m : Nat) (q : Int), m ≤ j ∧ k = .int .i64 m ∧ s = .int .u64 q ∧ 0 ≤ q ∧ q ≤ 9223372036854775808 ∧ Hid (q = 128 ^ m)) (fun _ k => j - (intOf k).toNat)
          case atStart => exact ⟨0, 1, by omega, rfl, rfl, by omega, by omega, hid rfl⟩
          case round =>
            obtain ⟨m, q, hm, rfl, rfl, hq0, hq1, hq⟩ := hrel
            by_cases hml : m < j
            · have h8 := pow128_8 m (by omega)
              rw [← hq.out] at h8
              go_wp2
              go_round
              case rel => exact ⟨m + 1, q * 128, by omega, by go_num, by first | rfl | go_num, by omega, by omega, hid (by rw [hq.out, Int.pow_succ])⟩
              case measure => simp [intOf]; omega
            · obtain rfl : m = j := by omega
              obtain rfl : q = P := by rw [hq.out, HP.out]
              by_cases hc8 : 128 ≤ c
              · exfalso; omega
              · by_cases hz : 0 < m ∧ c = 0
                · have Hres := hid (show rowGo most last (bs.drop at') 0 0 = (0, 0, 3) by rw [Ha.out, if_neg hr, if_neg hc8, if_pos hz])
                  obtain ⟨hz1, hz2⟩ := hz
                  clear hr
                  go_wp2
                  go_ret3
                  refine ⟨?_, Hb.out _⟩
                  rw [HZ.out]
                  unfold rrowZ
                  rw [Hres.out]
                  rfl
                · have Hres := hid (show rowGo most last (bs.drop at') 0 0 = (y + c % 128 * q, (m : Int) + 1, 0) by rw [Ha.out, if_neg hr, if_neg hc8, if_neg hz])
                  clear hr
                  by_cases hj0 : 0 < m
                  · have hz2 : ¬ c = 0 := by omega
                    clear hz
                    go_wp2
                    go_quiet (fail)
                    go_wp2
                    go_ret3
                    refine ⟨?_, (Hb.out _).trans (below_drewN' _ _ _)⟩
                    rw [HZ.out]
                    unfold rrowZ
                    rw [Hres.out]
                    simp [tup3i, Int.add_assoc]
                  · clear hz
                    go_wp2
                    go_quiet (fail)
                    go_wp2
                    go_ret3
                    refine ⟨?_, (Hb.out _).trans (below_drewN' _ _ _)⟩
                    rw [HZ.out]
                    unfold rrowZ
                    rw [Hres.out]
                    simp [tup3i, Int.add_assoc]
        · have hr2 : ((j : Int) == (most : Int) - 1) = false := by simpa using hr1
          have hr4 : (j : Int) + 1 < most := by omega
          clear hr1
          go_wp2
          go_loop [12, 13] (fun s k => ∃ (m : Nat) (q : Int), m ≤ j ∧ k = .int .i64 m ∧ s = .int .u64 q ∧ 0 ≤ q ∧ q ≤ 9223372036854775808 ∧ Hid (q = 128 ^ m)) (fun _ k => j - (intOf k).toNat)
          case atStart => exact ⟨0, 1, by omega, rfl, rfl, by omega, by omega, hid rfl⟩
          case round =>
            obtain ⟨m, q, hm, rfl, rfl, hq0, hq1, hq⟩ := hrel
            by_cases hml : m < j
            · have h8 := pow128_8 m (by omega)
              rw [← hq.out] at h8
              go_wp2
              go_round
              case rel => exact ⟨m + 1, q * 128, by omega, by go_num, by first | rfl | go_num, by omega, by omega, hid (by rw [hq.out, Int.pow_succ])⟩
              case measure => simp [intOf]; omega
            · obtain rfl : m = j := by omega
              obtain rfl : q = P := by rw [hq.out, HP.out]
              by_cases hc8 : 128 ≤ c
              · have Hres := hid (show rowGo most last (bs.drop at') 0 0 = rowGo most last (bs.drop (at' + (m + 1))) (m + 1) (y + c % 128 * q) by rw [Ha.out, if_neg hr, if_pos hc8])
                have hr9 : m + 1 < most := by omega
                clear hr
                go_wp2
                go_round
                case rel => exact ⟨m + 1, y + c % 128 * q, by omega, by omega, by go_num, by first | rfl | go_num, by omega, by omega, hid (by rw [HP.out]; exact hbd.out.2), hid Hres.out.symm⟩
                case measure => simp [intOf]; omega
              · by_cases hz : 0 < m ∧ c = 0
                · have Hres := hid (show rowGo most last (bs.drop at') 0 0 = (0, 0, 3) by rw [Ha.out, if_neg hr, if_neg hc8, if_pos hz])
                  obtain ⟨hz1, hz2⟩ := hz
                  clear hr
                  go_wp2
                  go_ret3
                  refine ⟨?_, Hb.out _⟩
                  rw [HZ.out]
                  unfold rrowZ
                  rw [Hres.out]
                  rfl
                · have Hres := hid (show rowGo most last (bs.drop at') 0 0 = (y + c % 128 * q, (m : Int) + 1, 0) by rw [Ha.out, if_neg hr, if_neg hc8, if_neg hz])
                  clear hr
                  by_cases hj0 : 0 < m
                  · have hz2 : ¬ c = 0 := by omega
                    clear hz
                    go_wp2
                    go_quiet (fail)
                    go_wp2
                    go_ret3
                    refine ⟨?_, (Hb.out _).trans (below_drewN' _ _ _)⟩
                    rw [HZ.out]
                    unfold rrowZ
                    rw [Hres.out]
                    simp [tup3i, Int.add_assoc]
                  · clear hz
                    go_wp2
                    go_quiet (fail)
                    go_wp2
                    go_ret3
                    refine ⟨?_, (Hb.out _).trans (below_drewN' _ _ _)⟩
                    rw [HZ.out]
                    unfold rrowZ
                    rw [Hres.out]
                    simp [tup3i, Int.add_assoc]
    · have Hres := hid (show rowGo most last (bs.drop at') 0 0 = (0, 0, 2) by rw [← hgo.out, List.drop_eq_nil_of_le (by omega)]; rfl)
      have hge : (bs.length : Int) ≤ (at' : Int) + (j : Int) := by omega
      clear hgo
      go_wp2
      go_ret3
      refine ⟨?_, Hb.out _⟩
      rw [HZ.out]
      unfold rrowZ
      rw [Hres.out]
      rfl

end Go.Proofs.Ytiammlngbejhkaa

namespace Go.Proofs.Ytiammlngbejhkaa
open Go.RowKit

set_option maxRecDepth 100000 in
set_option maxHeartbeats 800000 in
theorem rtakeNum_any (v : Value) (bs : List Int) (at' : Nat) (e st : Int) (w : World) (h : Sl w v bs) (ho : Oct bs) (hl : bs.length ≤ 1000000000) (ha : at' ≤ bs.length) (hst : e ≠ 0 → st = at') :
    Calls Try.prog 96 #[.agg #[v, .int .i64 at', .int .i64 e, .int .i64 st]] w fun x w' => RRPost w v (takeZ 1 0 bs at' e) (.int .i64 (takeZ 1 0 bs at' e).1.1) x w' := by
  have h1 := h
  obtain ⟨ao, c, rfl, hc, hx⟩ := h1
  clear hx
  by_cases he : e = 0
  · subst he
    obtain ⟨u, sz, e1, hr⟩ : ∃ u sz e1, rowGo 9 127 (bs.drop at') 0 0 = (u, sz, e1) := ⟨_, _, _, rfl⟩
    have hok := leadZ_ok 1 (bs.drop at') 0 (fun x hx => ho x (List.mem_of_mem_drop hx))
    have hle : leadZ 1 (bs.drop at') 0 = (u, sz, e1) := by
      rw [← hr]; rfl
    rw [hle] at hok
    dsimp only at hok
    have hdl : (bs.drop at').length = bs.length - at' := by simp
    have HR := hid (fun wx (hb : Below w.heap.size w wx) => rrow_any (.slice ao bs.length c) bs at' 0 st 9 127 wx (h.below hb) ho hl ha (by omega) (by omega) (by omega) (by omega) (by omega))
    have hrz : rrowZ 9 127 bs at' = (u, if e1 = 0 then (at' : Int) + sz else 0, e1) := by unfold rrowZ; rw [hr]
    by_cases he1 : e1 = 0
    · subst he1
      obtain ⟨k1, k2, k3, k4, k5⟩ := hok rfl
      have hz : takeZ 1 0 bs at' 0 = ((u, []), at' + sz.toNat, 0) := by
        unfold takeZ
        rw [if_pos rfl, hle]
        rfl
      rw [hz]
      dsimp only
      rw [if_pos rfl] at hrz
      rw [hrz] at HR
      have HQ2 := hid (new2r w (.cells #[.slice ao bs.length c, .int .i64 at', .int .i64 0, .int .i64 st] 96) (.cells #[.slice none 0 0, .int .i64 0, .int .i64 0, .int .i64 0] 96))
      have hu := k5 (by omega) (by omega)
      clear hz hrz hle hr hok hst k5
      go_enter Try.func96, Try.ntmps96
      go_wp2_with fail
      refine (HR.out _ (below2r w _ _)).mono ?_
      rintro x w1 ⟨rfl, hb1⟩
      dsimp only [tup3i]
      have hz1 : w.heap.size + 2 ≤ w1.heap.size := by
        have := hb1.size
        simp at this
        omega
      have hq := (hb1.block (w.heap.size + 1) (by simp)).trans (new2r w _ _).1
      have hp := (hb1.block w.heap.size (by simp; omega)).trans (new2r w _ _).2
      obtain ⟨p0, p1, p2, p3⟩ := cell_of_four hp
      have y0 := free_of_block (o := 1) hp
      obtain ⟨q0, q1, q2, q3⟩ := cell_of_four hq
      have z0 := free_of_block (o := 0) hq
      have z1 := free_of_block (o := 1) hq
      have z2 := free_of_block (o := 2) hq
      have z3 := free_of_block (o := 3) hq
      have hbw := (below2r w _ _).trans (hb1.mono (by simp; omega))
      clear hq hp HR HQ2 hb1
      go_wp2
      go_region
      all_goals go_wp2
      all_goals
        refine bodyPost_ret (v := .tuple #[.int .i64 u, .agg #[.slice ao bs.length c, .int .i64 ((at' : Int) + sz), .int .i64 0, .int .i64 st]]) (by simp [results, Try.results96, go_sem, q0, q1, q2, q3]) rfl ?_
        refine ⟨st, ?_, fun h => absurd rfl h, ?_⟩
        · have : ((at' + sz.toNat : Nat) : Int) = (at' : Int) + sz := by omega
          rw [this]
        · repeat (first | (with_reducible exact hbw) | (with_reducible refine Below.drew ?_) | (with_reducible refine Below.setCell ?_ (by dsimp only; omega) _) | (with_reducible refine Below.alloc ?_ (by simp; omega) _))
    · have hz : takeZ 1 0 bs at' 0 = ((0, []), at', e1) := by
        unfold takeZ
        rw [if_pos rfl, hle]
        dsimp only
        rw [if_neg he1]
      rw [hz]
      dsimp only
      rw [if_neg he1] at hrz
      rw [hrz] at HR
      have he3 : (e1 != 0) = true := by simpa using he1
      have HN := hid he1
      clear hz hrz hle hr hok hst he1
      go_enter Try.func96, Try.ntmps96
      go_wp2_with fail
      refine (HR.out _ (below2r w _ _)).mono ?_
      rintro x w1 ⟨rfl, hb1⟩
      dsimp only [tup3i]
      have hz1 : w.heap.size + 2 ≤ w1.heap.size := by
        have := hb1.size
        simp at this
        omega
      have hq := (hb1.block (w.heap.size + 1) (by simp)).trans (new2r w _ _).1
      have hp := (hb1.block w.heap.size (by simp; omega)).trans (new2r w _ _).2
      obtain ⟨p0, p1, p2, p3⟩ := cell_of_four hp
      have HQ := hid hq
      have hbw := (below2r w _ _).trans (hb1.mono (by simp; omega))
      clear hq hp HR
      go_wp2_with fail
      refine (rends_any ao bs.length c at' 0 st e1 _).mono ?_
      rintro x w2 ⟨rfl, hb2⟩
      have hq2 := (hb2.block (w.heap.size + 1) (by omega)).trans HQ.out
      obtain ⟨q0, q1, q2, q3⟩ := cell_of_four hq2
      have z0 := free_of_block (o := 0) hq2
      have z1 := free_of_block (o := 1) hq2
      have z2 := free_of_block (o := 2) hq2
      have z3 := free_of_block (o := 3) hq2
      have HB2 := hid hb2
      clear hq2 hb2
      go_wp2
      refine bodyPost_ret (v := .tuple #[.int .i64 0, .agg #[.slice ao bs.length c, .int .i64 (at' : Int), .int .i64 e1, .int .i64 (at' : Int)]]) (by simp [results, Try.results96, go_sem, q0, q1, q2, q3]) rfl ?_
      exact ⟨at', rfl, fun _ => rfl, ((((hbw.trans (HB2.out.mono (by omega))).setCell (by simp) _).setCell (by simp) _).setCell (by simp) _).setCell (by simp) _⟩
  · rw [takeZ_stop 1 0 bs at' e he]
    have he2 : (e != 0) = true := by simpa using he
    have HS := hid (hst he)
    clear hst
    go_enter Try.func96, Try.ntmps96
    go_wp2
    go_region
    all_goals go_wp2
    all_goals
      refine bodyPost_ret (v := .tuple #[.int .i64 0, .agg #[.slice ao bs.length c, .int .i64 (at' : Int), .int .i64 e, .int .i64 st]]) (by simp [results, Try.results96, go_sem]) rfl ?_
      exact ⟨st, rfl, fun _ => HS.out, (((Below.refl _ _).alloc (Nat.le_refl _) _).alloc (by simp) _).drew⟩

end Go.Proofs.Ytiammlngbejhkaa
