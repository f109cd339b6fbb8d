import Derived.Test.YtamajeagmkjjbaaRR1
namespace Go.Proofs.Ytamajeagmkjjbaa
open Go.RowKit

theorem below2 (w : World) (X Y : Obj) : Below w.heap.size w ((w.alloc X).alloc Y) := ((Below.refl _ _).alloc (Nat.le_refl _) _).alloc (by simp) _

theorem leZ_drop (L : List Int) (j : Nat) (h : j < L.length) : leZ (L.drop j) = L[j] + 256 * leZ (L.drop (j + 1)) := by
  rw [List.drop_eq_getElem_cons h, leZ]

theorem pow256_7 (k : Nat) (h : k ≤ 7) : (256 : Int) ^ k ≤ 72057594037927936 := by
  match k, h with
  | 0, _ | 1, _ | 2, _ | 3, _ | 4, _ | 5, _ | 6, _ | 7, _ => decide

set_option maxRecDepth 100000 in
set_option maxHeartbeats 800000 in
theorem rtakeFixed_any (v : Value) (bs : List Int) (at' : Nat) (e st n : Int) (w : World) (h : Sl w v bs) (ho : Oct bs) (hl : bs.length ≤ 1000000000) (ha : at' ≤ bs.length) (hst : e ≠ 0 → st = at') :
    Calls Try.prog 46 #[.agg #[v, .int .i64 at', .int .i64 e, .int .i64 st], .int .i64 n] w fun x w' => RRPost w v (takeZ 0 n bs at' e) (.int .u64 (takeZ 0 n bs at' e).1.1) x w' := by
  obtain ⟨ao, c, rfl, hc, hx⟩ := h
  have hln : ((bs.drop at').length : Int) = (bs.length : Int) - at' := by rw [List.length_drop]; omega
  by_cases he : e = 0
  · subst he
    by_cases hn : n < 0 ∨ 8 < n
    · have hz : takeZ 0 n bs at' 0 = ((0, []), at', 1) := by
        have hle : leadZ 0 (bs.drop at') n = (0, 0, 1) := by
          unfold leadZ fixZ
          rw [if_pos rfl, if_pos hn]
        unfold takeZ
        rw [if_pos rfl, hle]
        rfl
      rw [hz]
      clear hx hz hst hln
      rcases hn with hn | hn
      · go_enter Try.func46, Try.ntmps46
        go_wp2_with (go_at_call 58; refine (rends_any ao bs.length c at' 0 st 1 _).mono ?_; rintro x w1 ⟨rfl, hb1⟩; have hq := (hb1.block (w.heap.size + 1) (by simp)).trans (new2r w _ _).1; obtain ⟨q0, q1, q2, q3⟩ := cell_of_four hq; have z0 := free_of_block (o := 0) hq; have z1 := free_of_block (o := 1) hq; have z2 := free_of_block (o := 2) hq; have z3 := free_of_block (o := 3) hq; have HB := hid hb1; clear hq hb1)
        refine bodyPost_ret (v := .tuple #[.int .u64 0, .agg #[.slice ao bs.length c, .int .i64 (at' : Int), .int .i64 1, .int .i64 (at' : Int)]]) (by simp [results, Try.results46, go_sem, q0, q1, q2, q3]) rfl ?_
        exact ⟨at', rfl, fun _ => rfl, (((((below2 w _ _).trans (HB.out.mono (by simp; omega))).setCell (by simp) _).setCell (by simp) _).setCell (by simp) _).setCell (by simp) _⟩
      · have hn2 : ¬ n < 0 := by omega
        go_enter Try.func46, Try.ntmps46
        go_wp2_with (go_at_call 58; refine (rends_any ao bs.length c at' 0 st 1 _).mono ?_; rintro x w1 ⟨rfl, hb1⟩; have hq := (hb1.block (w.heap.size + 1) (by simp)).trans (new2r w _ _).1; obtain ⟨q0, q1, q2, q3⟩ := cell_of_four hq; have z0 := free_of_block (o := 0) hq; have z1 := free_of_block (o := 1) hq; have z2 := free_of_block (o := 2) hq; have z3 := free_of_block (o := 3) hq; have HB := hid hb1; clear hq hb1)
        refine bodyPost_ret (v := .tuple #[.int .u64 0, .agg #[.slice ao bs.length c, .int .i64 (at' : Int), .int .i64 1, .int .i64 (at' : Int)]]) (by simp [results, Try.results46, go_sem, q0, q1, q2, q3]) rfl ?_
        exact ⟨at', rfl, fun _ => rfl, (((((below2 w _ _).trans (HB.out.mono (by simp; omega))).setCell (by simp) _).setCell (by simp) _).setCell (by simp) _).setCell (by simp) _⟩
    · obtain ⟨N, rfl⟩ := Int.eq_ofNat_of_zero_le (show 0 ≤ n by omega)
      have hN : N ≤ 8 := by omega
      by_cases hsh : (bs.length : Int) - at' < N
      · have hz : takeZ 0 N bs at' 0 = ((0, []), at', 2) := by
          have hle : leadZ 0 (bs.drop at') N = (0, 0, 2) := by
            unfold leadZ fixZ
            rw [if_pos rfl, if_neg hn, if_pos (by omega)]
          unfold takeZ
          rw [if_pos rfl, hle]
          rfl
        rw [hz]
        clear hx hz hst hln hn
        go_enter Try.func46, Try.ntmps46
        go_wp2_with (go_at_call 58; refine (rends_any ao bs.length c at' 0 st 2 _).mono ?_; rintro x w1 ⟨rfl, hb1⟩; have hq := (hb1.block (w.heap.size + 1) (by simp)).trans (new2r w _ _).1; obtain ⟨q0, q1, q2, q3⟩ := cell_of_four hq; have z0 := free_of_block (o := 0) hq; have z1 := free_of_block (o := 1) hq; have z2 := free_of_block (o := 2) hq; have z3 := free_of_block (o := 3) hq; have HB := hid hb1; clear hq hb1)
        refine bodyPost_ret (v := .tuple #[.int .u64 0, .agg #[.slice ao bs.length c, .int .i64 (at' : Int), .int .i64 2, .int .i64 (at' : Int)]]) (by simp [results, Try.results46, go_sem, q0, q1, q2, q3]) rfl ?_
        exact ⟨at', rfl, fun _ => rfl, (((((below2 w _ _).trans (HB.out.mono (by simp; omega))).setCell (by simp) _).setCell (by simp) _).setCell (by simp) _).setCell (by simp) _⟩
      · obtain ⟨L, hL⟩ : ∃ L, L = (bs.drop at').take N := ⟨_, rfl⟩
        have hLl : L.length = N := by rw [hL, List.length_take]; omega
        have hLo : Oct L := fun x hx => ho x (List.mem_of_mem_drop (List.mem_of_mem_take (by rw [hL] at hx; exact hx)))
        have hLg : ∀ j (hj : j < L.length), bs[at' + j]? = some L[j] := by
          intro j hj
          have h2 := congrArg (fun l : List Int => l[j]?) hL
          have hjN : j < N := by omega
          rw [List.getElem?_eq_getElem hj, List.getElem?_take, if_pos hjN, List.getElem?_drop] at h2
          exact h2.symm
        have hz : takeZ 0 N bs at' 0 = ((leZ L, []), at' + N, 0) := by
          have hle : leadZ 0 (bs.drop at') N = (leZ L, (N : Int), 0) := by
            unfold leadZ fixZ
            rw [if_pos rfl, if_neg hn, if_neg (by omega), hL]
            rfl
          unfold takeZ
          rw [if_pos rfl, hle]
          rfl
        rw [hz]
        have HX := hid hx
        have HL := hid hLl
        have HG := hid hLg
        have HO := hid hLo
        clear hx hz hst hln hn hL hLl hLg hLo
        go_enter Try.func46, Try.ntmps46
        go_wp2
        go_loop [6, 7] (fun u i => ∃ (j : Nat), j ≤ N ∧ i = .int .i64 ((j : Int) - 1) ∧ u = .int .u64 (leZ (L.drop j))) (fun _ i => (intOf i + 1).toNat)
        case atStart => exact ⟨N, Nat.le_refl _, rfl, by rw [List.drop_eq_nil_of_le (by rw [HL.out]; omega)]; rfl⟩
        case round =>
          obtain ⟨j, hj, rfl, rfl⟩ := hrel
          by_cases hj0 : 0 < j
          · obtain ⟨i, rfl⟩ : ∃ i, j = i + 1 := ⟨j - 1, by omega⟩
            have hlt : i < L.length := by rw [HL.out]; omega
            have hg := HG.out i hlt
            obtain ⟨b, off, rfl, hcl⟩ := HX.out (by intro e; subst e; simp at hg)
            have hcj := hcl (at' + i) L[i] hg
            have hb := HO.out L[i] (List.getElem_mem hlt)
            have hbd := leZ_bd (L.drop (i + 1)) (fun x hx => HO.out x (List.mem_of_mem_drop hx))
            have hdl : (L.drop (i + 1)).length ≤ 7 := by rw [List.length_drop, HL.out]; omega
            have hp7 := pow256_7 _ hdl
            have hst2 := leZ_drop L i hlt
            obtain ⟨y, hy⟩ : ∃ y, y = L[i] := ⟨_, rfl⟩
            rw [← hy] at hcj hb hst2
            obtain ⟨u, hu⟩ : ∃ u, u = leZ (L.drop (i + 1)) := ⟨_, rfl⟩
            rw [← hu] at hbd hst2
            have hu0 : 0 ≤ u := hbd.1
            have hu1 : u < 72057594037927936 := by omega
            obtain ⟨hb0, hb1⟩ := hb
            have HS := hid hst2
            have hai : (at' : Int) + i < bs.length := by omega
            rw [← hu, show ((i + 1 : Nat) : Int) - 1 = (i : Int) from by omega]
            have hbl := World.block_lt_of_cell? _ _ hcj
            clear hy hu hbd hp7 hst2 hcl hg hdl
            go_wp2
            go_round
            case rel => exact ⟨i, by omega, by first | rfl | go_num, by rw [HS.out]; go_num⟩
            case measure => simp [intOf]
          · obtain rfl : j = 0 := by omega
            clear HG HO HX
            rw [List.drop_zero]
            go_wp2
            go_region
            all_goals go_wp2
            all_goals
              refine bodyPost_ret (v := .tuple #[.int .u64 (leZ L), .agg #[.slice ao bs.length c, .int .i64 ((at' : Int) + N), .int .i64 0, .int .i64 st]]) (by simp [results, Try.results46, go_sem]) rfl ?_
              exact ⟨st, by simp, fun h => absurd rfl h, (((Below.refl _ _).alloc (Nat.le_refl _) _).alloc (by simp) _).drew⟩
  · rw [takeZ_stop 0 n bs at' e he]
    have he2 : (e != 0) = true := by simpa using he
    have HS := hid (hst he)
    clear hx hst hln
    go_enter Try.func46, Try.ntmps46
    go_wp2
    go_region
    all_goals go_wp2
    all_goals
      refine bodyPost_ret (v := .tuple #[.int .u64 0, .agg #[.slice ao bs.length c, .int .i64 (at' : Int), .int .i64 e, .int .i64 st]]) (by simp [results, Try.results46, go_sem]) rfl ?_
      exact ⟨st, rfl, fun _ => HS.out, (((Below.refl _ _).alloc (Nat.le_refl _) _).alloc (by simp) _).drew⟩

end Go.Proofs.Ytamajeagmkjjbaa
