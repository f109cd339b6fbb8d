import Derived.Test.YthcoigbkdbkojabGreatK08
set_option maxRecDepth 100000
namespace Go.Proofs.YthcoigbkdbkojabGreat
open Go.RowKit
def holdsB (how c : Int) : Bool :=
  if how = 1 then c == 0 else if how = 2 then !(c == 0) else if how = 3 then decide (c < 0) else if how = 4 then decide (c ≤ 0) else if how = 5 then decide (0 < c) else if how = 6 then decide (0 ≤ c) else false
theorem tab_cells {w : World} {r : Nat} (h : w.heap[r]? = some cmpTab) :
    w.cell? ⟨r, 0, none⟩ = some (.int .i64 1) ∧ w.cell? ⟨r, 1, none⟩ = some (.func (.func 165) #[] #[]) ∧ w.cell? ⟨r, 2, none⟩ = some (.int .i64 2) ∧ w.cell? ⟨r, 3, none⟩ = some (.func (.func 166) #[] #[]) ∧
    w.cell? ⟨r, 4, none⟩ = some (.int .i64 3) ∧ w.cell? ⟨r, 5, none⟩ = some (.func (.func 167) #[] #[]) ∧ w.cell? ⟨r, 6, none⟩ = some (.int .i64 4) ∧ w.cell? ⟨r, 7, none⟩ = some (.func (.func 168) #[] #[]) ∧
    w.cell? ⟨r, 8, none⟩ = some (.int .i64 5) ∧ w.cell? ⟨r, 9, none⟩ = some (.func (.func 169) #[] #[]) ∧ w.cell? ⟨r, 10, none⟩ = some (.int .i64 6) ∧ w.cell? ⟨r, 11, none⟩ = some (.func (.func 170) #[] #[]) := by
  refine ⟨?_, ?_, ?_, ?_, ?_, ?_, ?_, ?_, ?_, ?_, ?_, ?_⟩ <;> (rw [cell_of_row w r _ _ _ _ h]; rfl)
theorem tab_at {w : World} {r : Nat} (h : w.heap[r]? = some cmpTab) (n : Nat) (hn : n < 6) :
    w.cell? ⟨r, n * 2, none⟩ = some (.int .i64 (n + 1)) ∧ w.cell? ⟨r, n * 2 + 1, none⟩ = some (.func (.func (165 + n)) #[] #[]) := by
  obtain ⟨t0, t1, t2, t3, t4, t5, t6, t7, t8, t9, t10, t11⟩ := tab_cells h
  rcases (by omega : n = 0 ∨ n = 1 ∨ n = 2 ∨ n = 3 ∨ n = 4 ∨ n = 5) with rfl | rfl | rfl | rfl | rfl | rfl
  · exact ⟨t0, t1⟩
  · exact ⟨t2, t3⟩
  · exact ⟨t4, t5⟩
  · exact ⟨t6, t7⟩
  · exact ⟨t8, t9⟩
  · exact ⟨t10, t11⟩
theorem met_any (n : Nat) (hn : n < 6) (c : Int) (w : World) : Calls Tryz.prog (165 + n) #[.int .i64 c] w fun x w' => x = .returned (.bool (holdsB (n + 1) c)) ∧ w' = w := by
  rcases (by omega : n = 0 ∨ n = 1 ∨ n = 2 ∨ n = 3 ∨ n = 4 ∨ n = 5) with rfl | rfl | rfl | rfl | rfl | rfl
  · exact met1 c w
  · exact met2 c w
  · exact met3 c w
  · exact met4 c w
  · exact met5 c w
  · exact met6 c w
theorem holds_close {w wr : World} (b : Bool) (h : Below w.heap.size w wr) : ∀ (o : Obj) (w2 : World), Below (wr.alloc o).heap.size (wr.alloc o) w2 → Below w.heap.size w w2 := by
  have _ := b
  intro o w2 h2
  exact (h.alloc h.size o).trans (h2.mono (h.alloc h.size o).size)
theorem blk_alloc {wr w2 : World} {p o : Obj} {r : Nat} (h : Below (wr.alloc o).heap.size (wr.alloc o).drew w2) (hr : wr.heap[r]? = some p) : w2.heap[r]? = some p := by
  have h1 := lt_of hr
  rw [h.block r (by simp; omega)]
  exact (Below.heap_alloc _ _ _ h1).trans hr
theorem fn_cell {wr w2 : World} {a b : Value} (h : Below (wr.alloc (.cells #[a, b] 215)).heap.size (wr.alloc (.cells #[a, b] 215)).drew w2) : w2.cell? ⟨wr.heap.size, 1, none⟩ = some b := by
  have h1 : w2.heap[wr.heap.size]? = some (.cells #[a, b] 215 (0, 0)) := (h.block _ (by simp)).trans (heap_alloc_new wr _)
  rw [cell_of_row w2 _ _ _ _ _ h1]
  rfl
set_option maxHeartbeats 1600000 in
theorem holds_any (how k i : Int) (s : ByteArray) (l j : Int) (t : ByteArray) (w : World) : Calls Tryz.prog 127 #[.int .i64 how, vl k i s, vl l j t] w fun x w' => x = .returned (.bool (holdsB how (cmpV k i s l j t))) ∧ Below w.heap.size w w' := by
  have hB0 := hid (below2 w (vo k i s) (vo l j t))
  have hR1 := hid (two1 w (vo k i s) (vo l j t))
  have hR2 := hid (two2 w (vo k i s) (vo l j t))
  go_enter Tryz.func127, Tryz.ntmps127
  go_wp2_with (
           go_at_call 148
           refine (comparisons_any _).mono ?_
           rintro e w1 ⟨rfl, ht1, hb1⟩
           have ht1 : w1.heap[w.heap.size + 1 + 1]? = some cmpTab := by simpa using ht1
           have H1 := hid (And.intro ht1 (And.intro (blk_of hb1 hR1.out (by simp; omega)) (And.intro (blk_of hb1 hR2.out (by simp)) (hB0.out.trans (hb1.mono hB0.out.size)))))
           clear hb1 ht1)
  go_loopw [11] (fun ix wr => ∃ n : Nat, n ≤ 6 ∧ ix = .int .i64 n ∧ Hid (Below w1.heap.size w1 wr) ∧ Hid (∀ m : Nat, m < n → how ≠ m + 1)) (fun ix _ => 6 - (intOf ix).toNat)
  case atStart => exact ⟨0, by omega, rfl, hid (Below.refl _ _), hid (by intro m hm; omega)⟩
  case round =>
    obtain ⟨n, hn, rfl, hb, hm⟩ := hrel
    by_cases hlt : n < 6
    · have hT := tab_at (blk_of hb.out H1.out.1 (lt_of H1.out.1)) n hlt
      have hlt' : (n : Int) < 6 := by omega
      by_cases hh : how = n + 1
      · subst hh
        obtain ⟨c0, c1, c2, -⟩ := vfacts (blk_of hb.out H1.out.2.1 (lt_of H1.out.2.1))
        obtain ⟨d0, d1, d2, -⟩ := vfacts (blk_of hb.out H1.out.2.2.1 (lt_of H1.out.2.2.1))
        have n1 := World.new_ne wr ⟨w.heap.size, 0, none⟩ c0
        have n2 := World.new_ne wr ⟨w.heap.size + 1, 0, none⟩ d0
        have hc := hid (holds_close (holdsB (n + 1) (cmpV k i s l j t)) (H1.out.2.2.2.trans (hb.out.mono H1.out.2.2.2.size)))
        have hA := hid (blk_of hb.out H1.out.2.1 (lt_of H1.out.2.1))
        have hD := hid (blk_of hb.out H1.out.2.2.1 (lt_of H1.out.2.2.1))
        clear H1 hb
        obtain ⟨T0, T1⟩ := hT
        rcases (by omega : n = 0 ∨ n = 1 ∨ n = 2 ∨ n = 3 ∨ n = 4 ∨ n = 5) with rfl | rfl | rfl | rfl | rfl | rfl
        · have hmet := hid (met_any 0 (by omega) (cmpV k i s l j t))
          go_wp2
          go_region_held (fun w' => w'.cell? ⟨wr.heap.size, 1, none⟩ = some (.func (.func 165) #[] #[]) ∧ w'.cell? ⟨w.heap.size, 0, none⟩ = some (.int .i64 k) ∧ w'.cell? ⟨w.heap.size, 1, none⟩ = some (.int .i64 i) ∧ w'.cell? ⟨w.heap.size, 2, none⟩ = some (.string s) ∧ w'.cell? ⟨w.heap.size + 1, 0, none⟩ = some (.int .i64 l) ∧ w'.cell? ⟨w.heap.size + 1, 1, none⟩ = some (.int .i64 j) ∧ w'.cell? ⟨w.heap.size + 1, 2, none⟩ = some (.string t)) (go_keep) (first
            | (go_at_call 149
               refine (compare_any k i s l j t _).mono ?_
               rintro e w2 ⟨rfl, hb2⟩
               have f1 : w2.cell? ⟨wr.heap.size, 1, none⟩ = some (.func (.func 165) #[] #[]) := fn_cell hb2
               obtain ⟨c0, c1, c2, -⟩ := vfacts (blk_alloc hb2 hA.out)
               obtain ⟨d0, d1, d2, -⟩ := vfacts (blk_alloc hb2 hD.out)
               have HB2 := hid hb2
               clear hb2)
            | (go_at_call 165
               refine (hmet.out _).mono ?_
               rintro e w3 ⟨rfl, e3⟩
               rw [e3]
               clear e3 w3))
          go_wp2
          go_ret
          exact ⟨rfl, hc.out _ w2 ⟨HB2.out.os, HB2.out.tape, HB2.out.output, HB2.out.size, HB2.out.block⟩⟩
        · have hmet := hid (met_any 1 (by omega) (cmpV k i s l j t))
          go_wp2
          go_region_held (fun w' => w'.cell? ⟨wr.heap.size, 1, none⟩ = some (.func (.func 166) #[] #[]) ∧ w'.cell? ⟨w.heap.size, 0, none⟩ = some (.int .i64 k) ∧ w'.cell? ⟨w.heap.size, 1, none⟩ = some (.int .i64 i) ∧ w'.cell? ⟨w.heap.size, 2, none⟩ = some (.string s) ∧ w'.cell? ⟨w.heap.size + 1, 0, none⟩ = some (.int .i64 l) ∧ w'.cell? ⟨w.heap.size + 1, 1, none⟩ = some (.int .i64 j) ∧ w'.cell? ⟨w.heap.size + 1, 2, none⟩ = some (.string t)) (go_keep) (first
            | (go_at_call 149
               refine (compare_any k i s l j t _).mono ?_
               rintro e w2 ⟨rfl, hb2⟩
               have f1 : w2.cell? ⟨wr.heap.size, 1, none⟩ = some (.func (.func 166) #[] #[]) := fn_cell hb2
               obtain ⟨c0, c1, c2, -⟩ := vfacts (blk_alloc hb2 hA.out)
               obtain ⟨d0, d1, d2, -⟩ := vfacts (blk_alloc hb2 hD.out)
               have HB2 := hid hb2
               clear hb2)
            | (go_at_call 166
               refine (hmet.out _).mono ?_
               rintro e w3 ⟨rfl, e3⟩
               rw [e3]
               clear e3 w3))
          go_wp2
          go_ret
          exact ⟨rfl, hc.out _ w2 ⟨HB2.out.os, HB2.out.tape, HB2.out.output, HB2.out.size, HB2.out.block⟩⟩
        · have hmet := hid (met_any 2 (by omega) (cmpV k i s l j t))
          go_wp2
          go_region_held (fun w' => w'.cell? ⟨wr.heap.size, 1, none⟩ = some (.func (.func 167) #[] #[]) ∧ w'.cell? ⟨w.heap.size, 0, none⟩ = some (.int .i64 k) ∧ w'.cell? ⟨w.heap.size, 1, none⟩ = some (.int .i64 i) ∧ w'.cell? ⟨w.heap.size, 2, none⟩ = some (.string s) ∧ w'.cell? ⟨w.heap.size + 1, 0, none⟩ = some (.int .i64 l) ∧ w'.cell? ⟨w.heap.size + 1, 1, none⟩ = some (.int .i64 j) ∧ w'.cell? ⟨w.heap.size + 1, 2, none⟩ = some (.string t)) (go_keep) (first
            | (go_at_call 149
               refine (compare_any k i s l j t _).mono ?_
               rintro e w2 ⟨rfl, hb2⟩
               have f1 : w2.cell? ⟨wr.heap.size, 1, none⟩ = some (.func (.func 167) #[] #[]) := fn_cell hb2
               obtain ⟨c0, c1, c2, -⟩ := vfacts (blk_alloc hb2 hA.out)
               obtain ⟨d0, d1, d2, -⟩ := vfacts (blk_alloc hb2 hD.out)
               have HB2 := hid hb2
               clear hb2)
            | (go_at_call 167
               refine (hmet.out _).mono ?_
               rintro e w3 ⟨rfl, e3⟩
               rw [e3]
               clear e3 w3))
          go_wp2
          go_ret
          exact ⟨rfl, hc.out _ w2 ⟨HB2.out.os, HB2.out.tape, HB2.out.output, HB2.out.size, HB2.out.block⟩⟩
        · have hmet := hid (met_any 3 (by omega) (cmpV k i s l j t))
          go_wp2
          go_region_held (fun w' => w'.cell? ⟨wr.heap.size, 1, none⟩ = some (.func (.func 168) #[] #[]) ∧ w'.cell? ⟨w.heap.size, 0, none⟩ = some (.int .i64 k) ∧ w'.cell? ⟨w.heap.size, 1, none⟩ = some (.int .i64 i) ∧ w'.cell? ⟨w.heap.size, 2, none⟩ = some (.string s) ∧ w'.cell? ⟨w.heap.size + 1, 0, none⟩ = some (.int .i64 l) ∧ w'.cell? ⟨w.heap.size + 1, 1, none⟩ = some (.int .i64 j) ∧ w'.cell? ⟨w.heap.size + 1, 2, none⟩ = some (.string t)) (go_keep) (first
            | (go_at_call 149
               refine (compare_any k i s l j t _).mono ?_
               rintro e w2 ⟨rfl, hb2⟩
               have f1 : w2.cell? ⟨wr.heap.size, 1, none⟩ = some (.func (.func 168) #[] #[]) := fn_cell hb2
               obtain ⟨c0, c1, c2, -⟩ := vfacts (blk_alloc hb2 hA.out)
               obtain ⟨d0, d1, d2, -⟩ := vfacts (blk_alloc hb2 hD.out)
               have HB2 := hid hb2
               clear hb2)
            | (go_at_call 168
               refine (hmet.out _).mono ?_
               rintro e w3 ⟨rfl, e3⟩
               rw [e3]
               clear e3 w3))
          go_wp2
          go_ret
          exact ⟨rfl, hc.out _ w2 ⟨HB2.out.os, HB2.out.tape, HB2.out.output, HB2.out.size, HB2.out.block⟩⟩
        · have hmet := hid (met_any 4 (by omega) (cmpV k i s l j t))
          go_wp2
          go_region_held (fun w' => w'.cell? ⟨wr.heap.size, 1, none⟩ = some (.func (.func 169) #[] #[]) ∧ w'.cell? ⟨w.heap.size, 0, none⟩ = some (.int .i64 k) ∧ w'.cell? ⟨w.heap.size, 1, none⟩ = some (.int .i64 i) ∧ w'.cell? ⟨w.heap.size, 2, none⟩ = some (.string s) ∧ w'.cell? ⟨w.heap.size + 1, 0, none⟩ = some (.int .i64 l) ∧ w'.cell? ⟨w.heap.size + 1, 1, none⟩ = some (.int .i64 j) ∧ w'.cell? ⟨w.heap.size + 1, 2, none⟩ = some (.string t)) (go_keep) (first
            | (go_at_call 149
               refine (compare_any k i s l j t _).mono ?_
               rintro e w2 ⟨rfl, hb2⟩
               have f1 : w2.cell? ⟨wr.heap.size, 1, none⟩ = some (.func (.func 169) #[] #[]) := fn_cell hb2
               obtain ⟨c0, c1, c2, -⟩ := vfacts (blk_alloc hb2 hA.out)
               obtain ⟨d0, d1, d2, -⟩ := vfacts (blk_alloc hb2 hD.out)
               have HB2 := hid hb2
               clear hb2)
            | (go_at_call 169
               refine (hmet.out _).mono ?_
               rintro e w3 ⟨rfl, e3⟩
               rw [e3]
               clear e3 w3))
          go_wp2
          go_ret
          exact ⟨rfl, hc.out _ w2 ⟨HB2.out.os, HB2.out.tape, HB2.out.output, HB2.out.size, HB2.out.block⟩⟩
        · have hmet := hid (met_any 5 (by omega) (cmpV k i s l j t))
          go_wp2
          go_region_held (fun w' => w'.cell? ⟨wr.heap.size, 1, none⟩ = some (.func (.func 170) #[] #[]) ∧ w'.cell? ⟨w.heap.size, 0, none⟩ = some (.int .i64 k) ∧ w'.cell? ⟨w.heap.size, 1, none⟩ = some (.int .i64 i) ∧ w'.cell? ⟨w.heap.size, 2, none⟩ = some (.string s) ∧ w'.cell? ⟨w.heap.size + 1, 0, none⟩ = some (.int .i64 l) ∧ w'.cell? ⟨w.heap.size + 1, 1, none⟩ = some (.int .i64 j) ∧ w'.cell? ⟨w.heap.size + 1, 2, none⟩ = some (.string t)) (go_keep) (first
            | (go_at_call 149
               refine (compare_any k i s l j t _).mono ?_
               rintro e w2 ⟨rfl, hb2⟩
               have f1 : w2.cell? ⟨wr.heap.size, 1, none⟩ = some (.func (.func 170) #[] #[]) := fn_cell hb2
               obtain ⟨c0, c1, c2, -⟩ := vfacts (blk_alloc hb2 hA.out)
               obtain ⟨d0, d1, d2, -⟩ := vfacts (blk_alloc hb2 hD.out)
               have HB2 := hid hb2
               clear hb2)
            | (go_at_call 170
               refine (hmet.out _).mono ?_
               rintro e w3 ⟨rfl, e3⟩
               rw [e3]
               clear e3 w3))
          go_wp2
          go_ret
          exact ⟨rfl, hc.out _ w2 ⟨HB2.out.os, HB2.out.tape, HB2.out.output, HB2.out.size, HB2.out.block⟩⟩
      · have hh2 : ((n : Int) + 1 == how) = false := by simp; omega
        obtain ⟨T0, T1⟩ := hT
        have i1 : (0 : Int) ≤ (n : Int) := by omega
        go_wp2
        refine ⟨⟨n + 1, by omega, by simp, hid (hb.out.alloc hb.out.size _), hid ?_⟩, by simp [intOf]; omega⟩
        intro m hm1
        rcases Nat.lt_succ_iff_lt_or_eq.1 hm1 with h | rfl
        · exact hm.out m h
        · exact hh
    · have he : n = 6 := by omega
      subst he
      go_wp2
      go_ret
      refine ⟨?_, H1.out.2.2.2.trans (hb.out.mono H1.out.2.2.2.size)⟩
      have h1 := hm.out 0 (by omega)
      have h2 := hm.out 1 (by omega)
      have h3 := hm.out 2 (by omega)
      have h4 := hm.out 3 (by omega)
      have h5 := hm.out 4 (by omega)
      have h6 := hm.out 5 (by omega)
      rw [show holdsB how (cmpV k i s l j t) = false by unfold holdsB; simp_all]
      rfl
def strBs (s : ByteArray) : List Int := s.data.toList.map fun b => (b.toNat : Int)
theorem strBs_len (s : ByteArray) : (strBs s).length = s.size := by
  unfold strBs; rw [List.length_map, Array.length_toList]; rfl
def withinB (n l m : Int) : Bool := decide (l ≤ n) && decide (n ≤ m)
theorem within_any (n l m : Int) (w : World) : Calls Tryz.prog 36 #[.int .i64 n, .int .i64 l, .int .i64 m] w fun x w' => x = .returned (.bool (withinB n l m)) ∧ w' = w := by
  by_cases h1 : l ≤ n
  · by_cases h2 : n ≤ m
    · go_enter Tryz.func36, Tryz.ntmps36
      go_wp2
      go_ret
      exact ⟨by simp [withinB, h1, h2], rfl⟩
    · have h3 : decide (n ≤ m) = false := by simpa using h2
      go_enter Tryz.func36, Tryz.ntmps36
      go_wp2
      go_ret
      exact ⟨by simp [withinB, h1, h2], rfl⟩
  · have h3 : decide (l ≤ n) = false := by simpa using h1
    go_enter Tryz.func36, Tryz.ntmps36
    go_wp2
    go_ret
    exact ⟨by simp [withinB, h3], rfl⟩
def letB (c : Int) : Bool := (decide (97 ≤ c) && decide (c ≤ 122)) || (decide (65 ≤ c) && decide (c ≤ 90))
def nbB (c : Int) : Bool := c == 95 || c == 45 || c == 46 || letB c || (decide (48 ≤ c) && decide (c ≤ 57))
set_option maxHeartbeats 800000 in
theorem isLetter_any (c : Int) (w : World) : Calls Tryz.prog 50 #[.int .u8 c] w fun x w' => x = .returned (.bool (letB c)) ∧ w' = w := by
  rcases Bool.eq_false_or_eq_true (decide (97 ≤ c)) with h1 | h1 <;> rcases Bool.eq_false_or_eq_true (decide (c ≤ 122)) with h2 | h2 <;>
    rcases Bool.eq_false_or_eq_true (decide (65 ≤ c)) with h3 | h3 <;> rcases Bool.eq_false_or_eq_true (decide (c ≤ 90)) with h4 | h4 <;>
  · go_enter Tryz.func50, Tryz.ntmps50
    go_wp2
    go_ret
    exact ⟨by simp [letB, h1, h2, h3, h4], rfl⟩
set_option maxHeartbeats 800000 in
theorem isNameByte_any (c : Int) (w : World) : Calls Tryz.prog 51 #[.int .u8 c] w fun x w' => x = .returned (.bool (nbB c)) ∧ w' = w := by
  by_cases e1 : (c == 95) = true
  · go_enter Tryz.func51, Tryz.ntmps51
    go_wp2
    go_ret
    exact ⟨by simp [nbB, e1], rfl⟩
  have e1 : (c == 95) = false := by simpa using e1
  by_cases e2 : (c == 45) = true
  · go_enter Tryz.func51, Tryz.ntmps51
    go_wp2
    go_ret
    exact ⟨by simp [nbB, e2], rfl⟩
  have e2 : (c == 45) = false := by simpa using e2
  by_cases e3 : (c == 46) = true
  · go_enter Tryz.func51, Tryz.ntmps51
    go_wp2
    go_ret
    exact ⟨by simp [nbB, e3], rfl⟩
  have e3 : (c == 46) = false := by simpa using e3
  obtain ⟨l, hl⟩ : ∃ l, l = letB c := ⟨_, rfl⟩
  have hL : ∀ w : World, Calls Tryz.prog 50 #[.int .u8 c] w fun x w' => x = .returned (.bool l) ∧ w' = w := by rw [hl]; exact isLetter_any c
  have HL := hid hL
  have Hl := hid hl
  clear hL hl
  rcases Bool.eq_false_or_eq_true l with h0 | h0 <;> rcases Bool.eq_false_or_eq_true (decide (48 ≤ c)) with h1 | h1 <;> rcases Bool.eq_false_or_eq_true (decide (c ≤ 57)) with h2 | h2 <;>
  · subst h0
    go_enter Tryz.func51, Tryz.ntmps51
    go_wp2_with (go_at_call 50; refine (HL.out _).mono ?_; rintro e w' ⟨rfl, rfl⟩)
    go_ret
    exact ⟨by simp [nbB, e1, e2, e3, ← Hl.out, h1, h2], rfl⟩
def nameB (s : ByteArray) : Bool := decide (1 ≤ s.size ∧ s.size ≤ 32 ∧ letB ((strBs s).headD 0) = true ∧ ∀ x ∈ strBs s, nbB x = true)
theorem strBs_at (s : ByteArray) (k : Nat) (h : k < s.size) : (strBs s)[k]? = some ((s[k].toNat : Int)) := by
  rw [List.getElem?_eq_getElem (by rw [strBs_len]; exact h)]
  congr 1
  simp [strBs]
  rfl
theorem strBs_head (s : ByteArray) (h : 0 < s.size) : (strBs s).headD 0 = (s[0].toNat : Int) := by
  have := strBs_at s 0 h
  cases hs : strBs s with
  | nil => rw [hs] at this; cases this
  | cons a l => rw [hs] at this; simpa using this
set_option maxHeartbeats 800000 in
theorem isName_any (s : ByteArray) (w : World) : Calls Tryz.prog 35 #[.string s] w fun x w' => x = .returned (.bool (nameB s)) ∧ w' = w := by
  obtain ⟨r, hr⟩ : ∃ r, r = nameB s := ⟨_, rfl⟩
  rw [← hr]
  have HR := hid hr
  clear hr
  by_cases h1 : withinB s.size 1 32 = true
  · have hs1 : 1 ≤ s.size ∧ s.size ≤ 32 := by simp [withinB] at h1; omega
    have hs2 : 0 < s.size := by omega
    obtain ⟨a0, ha0⟩ : ∃ a0 : UInt8, a0 = s[0]'hs2 := ⟨_, rfl⟩
    have hh := strBs_head s hs2
    rw [← ha0] at hh
    by_cases h2 : letB (a0.toNat : Int) = true
    · have HW := hid h1
      have HH := hid hh
      have HS := hid hs1
      have HL := hid h2
      have hsz : s.size ≤ 32 := hs1.2
      clear h1 hh hs1 h2
      go_enter Tryz.func35, Tryz.ntmps35
      go_wp2_with (first
        | (go_at_call 36; refine (within_any (s.size : Int) 1 32 _).mono ?_; rintro e w' ⟨rfl, e1⟩; rw [e1, HW.out]; clear e1 w')
        | (go_at_call 50; rw [← ha0]; refine (isLetter_any (a0.toNat : Int) _).mono ?_; rintro e w' ⟨rfl, e1⟩; rw [e1, HL.out]; clear e1 w'))
      go_loopw [16] (fun i wr => ∃ (k : Nat), k ≤ s.size ∧ i = .int .i64 k ∧ wr = w ∧ Hid (∀ x ∈ (strBs s).take k, nbB x = true)) (fun i _ => s.size - (intOf i).toNat)
      case atStart => exact ⟨0, Nat.zero_le _, rfl, rfl, hid (by simp)⟩
      case round =>
        obtain ⟨k, hk, rfl, rfl, hpre⟩ := hrel
        by_cases hlt : k < s.size
        · obtain ⟨a1, ha1⟩ : ∃ a1 : UInt8, a1 = s[k]'hlt := ⟨_, rfl⟩
          have hat := strBs_at s k hlt
          rw [← ha1] at hat
          by_cases h3 : nbB (a1.toNat : Int) = true
          · have H3 := hid h3
            have HA := hid hat
            clear h3 hat
            go_wp2_with (go_at_call 51; rw [← ha1]; refine (isNameByte_any (a1.toNat : Int) _).mono ?_; rintro e w' ⟨rfl, e1⟩; rw [e1, H3.out]; clear e1 w')
            go_roundw
            case rel =>
              refine ⟨k + 1, by omega, by go_num, (by first | rfl | trivial), hid ?_⟩
              intro x hx
              rw [List.take_add_one, HA.out] at hx
              rcases List.mem_append.1 hx with h | h
              · exact hpre.out x h
              · simp at h; rw [h]; exact H3.out
            case measure => simp [intOf]; omega
          · have h3 : nbB (a1.toNat : Int) = false := by simpa using h3
            have H3 := hid h3
            have HA := hid hat
            clear h3 hat
            go_wp2_with (go_at_call 51; rw [← ha1]; refine (isNameByte_any (a1.toNat : Int) _).mono ?_; rintro e w' ⟨rfl, e1⟩; rw [e1, H3.out]; clear e1 w')
            go_ret
            refine ⟨?_, rfl⟩
            rw [HR.out, show nameB s = false by
              simp only [nameB, decide_eq_false_iff_not]
              rintro ⟨_, _, _, hall⟩
              have := hall _ (List.mem_of_getElem? HA.out)
              rw [H3.out] at this
              cases this]
            rfl
        · have hall := hpre.out
          rw [List.take_of_length_le (by rw [strBs_len]; omega)] at hall
          have Hall := hid hall
          clear hall
          go_wp2
          go_ret
          refine ⟨?_, rfl⟩
          rw [HR.out, show nameB s = true by
            simp only [nameB, decide_eq_true_eq]
            exact ⟨HS.out.1, HS.out.2, by rw [HH.out]; exact HL.out, Hall.out⟩]
          rfl
    · have h2 : letB (a0.toNat : Int) = false := by simpa using h2
      have HW := hid h1
      have HH := hid hh
      have HL := hid h2
      clear h1 hh h2
      go_enter Tryz.func35, Tryz.ntmps35
      go_wp2_with (first
        | (go_at_call 36; refine (within_any (s.size : Int) 1 32 _).mono ?_; rintro e w' ⟨rfl, e1⟩; rw [e1, HW.out]; clear e1 w')
        | (go_at_call 50; rw [← ha0]; refine (isLetter_any (a0.toNat : Int) _).mono ?_; rintro e w' ⟨rfl, e1⟩; rw [e1, HL.out]; clear e1 w'))
      go_ret
      refine ⟨?_, rfl⟩
      rw [HR.out, show nameB s = false by
        simp only [nameB, decide_eq_false_iff_not]
        rintro ⟨_, _, h, _⟩
        rw [HH.out, HL.out] at h
        cases h]
      rfl
  · have h1 : withinB s.size 1 32 = false := by simpa using h1
    have HW := hid h1
    clear h1
    go_enter Tryz.func35, Tryz.ntmps35
    go_wp2_with (go_at_call 36; refine (within_any (s.size : Int) 1 32 _).mono ?_; rintro e w' ⟨rfl, e1⟩; rw [e1, HW.out]; clear e1 w')
    go_ret
    refine ⟨?_, rfl⟩
    rw [HR.out, show nameB s = false by
      simp only [nameB, decide_eq_false_iff_not]
      rintro ⟨h, h', _⟩
      have := HW.out
      simp [withinB] at this
      omega]
    rfl
theorem cutG {A : Type} {F : A → World → Prop} {a : A} {w : World} (I : World → Prop) (h : I w) (k : ∀ w', I w' → F a w') : F a w := k w h
inductive Fk where
  | a | b | c | arg | skp | cmp | look
abbrev fn (k : Nat) : Value := .func (.func k) #[] #[]
def Fk.cells : Fk → List Value
  | .a => [fn 53, fn 86, fn 87, fn 88]
  | .b => [fn 54, fn 86, fn 87, fn 88]
  | .c => [fn 55, fn 86, fn 87, fn 88]
  | .arg => [fn 57, fn 58, fn 89, fn 90]
  | .skp => [fn 53, fn 59, fn 89, fn 90]
  | .cmp => [fn 57, fn 60, fn 89, fn 90]
  | .look => [fn 57, fn 61, fn 89, fn 90]
theorem register_any (k : Nat) (w : World) : Calls Tryz.prog 52 #[fn k] w fun x w' => x = .returned (.agg #[fn k, fn 86, fn 87, fn 88]) ∧ w' = w.alloc (.cells #[fn k, fn 86, fn 87, fn 88] 135) := by
  go_enter Tryz.func52, Tryz.ntmps52
  go_wp2
  go_returns
  exact ⟨rfl, rfl⟩
theorem numberF_any (k l : Nat) (w : World) : Calls Tryz.prog 56 #[fn k, fn l] w fun x w' => x = .returned (.agg #[fn k, fn l, fn 89, fn 90]) ∧ w' = w.alloc (.cells #[fn k, fn l, fn 89, fn 90] 135) := by
  go_enter Tryz.func56, Tryz.ntmps56
  go_wp2
  go_returns
  exact ⟨rfl, rfl⟩
def opF : Nat → List Fk
  | 1 => [.a]
  | 2 => [.a, .arg]
  | 3 => [.a, .b]
  | 4 => [.a, .b]
  | 5 => [.a]
  | 6 => [.a, .b, .c]
  | 7 => [.a, .b, .c]
  | 8 => [.a, .b, .c]
  | 9 => [.a, .b, .c]
  | 10 => [.b, .c, .cmp]
  | 11 => [.skp, .b, .c, .cmp]
  | 12 => [.a, .b, .c, .look]
  | 13 => [.a, .b, .c, .look]
  | 14 => [.a, .b]
  | 15 => [.a]
  | _ => []
def fsCells (fs : List Fk) : Array Value := (fs.flatMap Fk.cells).toArray
def opS (G i : Nat) : Value := if 1 ≤ i ∧ i ≤ 15 then .slice (some ⟨G + (i - 1), 0, none⟩) (opF i).length (opF i).length else .slice none 0 0
def tblL (G : Nat) : List Value := (List.range 17).flatMap fun i => [opS G i, .bool (i == 1)]
structure Tbl (w : World) (G : Nat) : Prop where
  tb : w.heap[G + 15]? = some (.cells (tblL G).toArray 97 (0, 0))
  fb : ∀ i, 1 ≤ i → i ≤ 15 → w.heap[G + (i - 1)]? = some (.cells (fsCells (opF i)) 135 (0, 0))
theorem Tbl.below {w w' : World} {G : Nat} (h : Tbl w G) (hb : Below w.heap.size w w') : Tbl w' G :=
  ⟨blk_of hb h.tb (lt_of h.tb), fun i h1 h2 => blk_of hb (h.fb i h1 h2) (lt_of (h.fb i h1 h2))⟩
def allocs (w : World) (l : List Obj) : World := l.foldl World.alloc w
theorem allocs_below (l : List Obj) : ∀ w : World, Below w.heap.size w (allocs w l) := by
  induction l with
  | nil => intro w; exact Below.refl _ _
  | cons o l ih => intro w; exact (below1 w o).trans ((ih (w.alloc o)).mono (by simp))
theorem allocs_at (l : List Obj) : ∀ (w : World) (j : Nat) (o : Obj), l[j]? = some o → (allocs w l).heap[w.heap.size + j]? = some o := by
  induction l with
  | nil => intro w j o h; simp at h
  | cons x l ih =>
    intro w j o h
    cases j with
    | zero =>
      simp at h
      subst h
      exact blk_of (allocs_below l (w.alloc x)) (heap_alloc_new w x) (by simp)
    | succ j =>
      have := ih (w.alloc x) j o (by simpa using h)
      show (allocs (w.alloc x) l).heap[w.heap.size + (j + 1)]? = some o
      simpa [Nat.add_assoc, Nat.add_comm 1 j] using this
def opObjs (G : Nat) : List Obj :=
  [.cells (fsCells [.a]) 135, .cells (fsCells [.b]) 135, .cells (fsCells [.c]) 135, .cells (fsCells [.a]) 135, .cells (fsCells [.b]) 135, .cells (fsCells [.c]) 135,
   .cells (fsCells [.arg]) 135, .cells (fsCells [.skp]) 135, .cells (fsCells [.arg]) 135, .cells (fsCells [.skp]) 135,
   .cells (fsCells [.cmp]) 135, .cells (fsCells [.look]) 135, .cells (fsCells [.cmp]) 135, .cells (fsCells [.look]) 135] ++
  ((List.range 15).map fun i => .cells (fsCells (opF (i + 1))) 135) ++ [.cells (tblL G).toArray 97]
theorem tbl_of (w : World) : Tbl (allocs w (opObjs (w.heap.size + 14))) (w.heap.size + 14) := by
  refine ⟨?_, ?_⟩
  · have := allocs_at (opObjs (w.heap.size + 14)) w 29 _ rfl
    simpa [Nat.add_assoc] using this
  · intro i h1 h2
    obtain ⟨j, rfl⟩ : ∃ j, i = j + 1 := ⟨i - 1, by omega⟩
    have hj : (opObjs (w.heap.size + 14))[14 + j]? = some (.cells (fsCells (opF (j + 1))) 135) := by
      rcases (show j = 0 ∨ j = 1 ∨ j = 2 ∨ j = 3 ∨ j = 4 ∨ j = 5 ∨ j = 6 ∨ j = 7 ∨ j = 8 ∨ j = 9 ∨ j = 10 ∨ j = 11 ∨ j = 12 ∨ j = 13 ∨ j = 14 by omega) with
        rfl | rfl | rfl | rfl | rfl | rfl | rfl | rfl | rfl | rfl | rfl | rfl | rfl | rfl | rfl <;> rfl
    have := allocs_at (opObjs (w.heap.size + 14)) w (14 + j) _ hj
    simpa [Nat.add_assoc] using this
def OpsPost (w : World) (x : Ending) (w' : World) : Prop := ∃ G, x = .returned (.slice (some ⟨G + 15, 0, none⟩) 17 17) ∧ Tbl w' G ∧ w.heap.size ≤ G ∧ Below w.heap.size w w'
theorem ops_end (w : World) : OpsPost w (.returned (.slice (some ⟨w.heap.size + 14 + 15, 0, none⟩) 17 17)) (allocs w (opObjs (w.heap.size + 14))) :=
  ⟨_, rfl, tbl_of w, by omega, allocs_below _ w⟩
set_option maxHeartbeats 4000000 in
theorem operations_any (w : World) : Calls Tryz.prog 37 #[] w (OpsPost w) := by
  have r1 := register_any 53
  have r2 := register_any 54
  have r3 := register_any 55
  have R1 := hid r1
  have R2 := hid r2
  have R3 := hid r3
  clear r1 r2 r3
  have HE := hid (ops_end w)
  go_enter Tryz.func37, Tryz.ntmps37
  go_wp2_with (first
    | (go_at_call 52
       first
       | (refine (R1.out _).mono ?_)
       | (refine (R2.out _).mono ?_)
       | (refine (R3.out _).mono ?_)
       rintro e w' ⟨rfl, rfl⟩)
    | (go_at_call 56
       refine (numberF_any _ _ _).mono ?_
       rintro e w' ⟨rfl, rfl⟩))
  go_ret
  exact HE.out
def opN (op : Int) : Nat := if 1 ≤ op ∧ op ≤ 16 then op.toNat else 0
def findV (G : Nat) (op : Int) : Value := .tuple #[.agg #[opS G (opN op), .bool (opN op == 1)], .bool (decide (1 ≤ op ∧ op ≤ 16))]
theorem opS_form (G i : Nat) : ∃ ao n c, opS G i = .slice ao n c := by unfold opS; split <;> exact ⟨_, _, _, rfl⟩
theorem tbl_cells {w : World} {G : Nat} (h : Tbl w G) (i : Nat) (hi : i < 17) : w.cell? ⟨G + 15, i * 2, none⟩ = some (opS G i) ∧ w.cell? ⟨G + 15, i * 2 + 1, none⟩ = some (.bool (i == 1)) := by
  rw [cell_of_row w _ _ _ _ _ h.tb, cell_of_row w _ _ _ _ _ h.tb]
  rcases (show i = 0 ∨ i = 1 ∨ i = 2 ∨ i = 3 ∨ i = 4 ∨ i = 5 ∨ i = 6 ∨ i = 7 ∨ i = 8 ∨ i = 9 ∨ i = 10 ∨ i = 11 ∨ i = 12 ∨ i = 13 ∨ i = 14 ∨ i = 15 ∨ i = 16 by omega) with
    rfl | rfl | rfl | rfl | rfl | rfl | rfl | rfl | rfl | rfl | rfl | rfl | rfl | rfl | rfl | rfl | rfl <;> exact ⟨rfl, rfl⟩
set_option maxHeartbeats 800000 in
theorem find_any (G : Nat) (op : Int) (w : World) (h : Tbl w G) :
    Calls Tryz.prog 38 #[.slice (some ⟨G + 15, 0, none⟩) 17 17, .int .i64 op] w fun x w' => x = .returned (findV G op) ∧ Below w.heap.size w w' := by
  by_cases hop : 1 ≤ op ∧ op ≤ 16
  · have hw : withinB op 1 16 = true := by simp [withinB, hop]
    obtain ⟨i, rfl⟩ : ∃ i : Nat, op = i := ⟨op.toNat, by omega⟩
    have hn : opN i = i := by simp [opN, hop]
    have hi : i < 17 := by omega
    obtain ⟨c1, c2⟩ := tbl_cells h i hi
    obtain ⟨ao, n, c, hs⟩ := opS_form G i
    have hz := lt_of h.tb
    rw [show findV G i = .tuple #[.agg #[.slice ao n c, .bool (i == 1)], .bool true] by rw [findV, hn, hs]; simp [hop]]
    rw [hs] at c1
    obtain ⟨q, hq⟩ : ∃ q, q = (i == 1) := ⟨_, rfl⟩
    rw [← hq] at c2 ⊢
    have HW := hid hw
    have hi0 : (0 : Int) ≤ (i : Int) := by omega
    have hi1 : (i : Int) < 17 := by omega
    clear hs hn hop hw h hq
    go_enter Tryz.func38, Tryz.ntmps38
    go_wp2_with (go_at_call 36; refine (within_any (i : Int) 1 16 _).mono ?_; rintro e w' ⟨rfl, e1⟩; rw [e1, HW.out]; clear e1 w')
    go_returns
    exact ⟨rfl, below1 _ _⟩
  · have hw : withinB op 1 16 = false := by simp [withinB]; omega
    rw [show findV G op = .tuple #[.agg #[.slice none 0 0, .bool false], .bool false] by simp [findV, opN, hop, opS]]
    have HW := hid hw
    clear hw hop h
    go_enter Tryz.func38, Tryz.ntmps38
    go_wp2_with (go_at_call 36; refine (within_any op 1 16 _).mono ?_; rintro e w' ⟨rfl, e1⟩; rw [e1, HW.out]; clear e1 w')
    go_returns
    exact ⟨rfl, below1 _ _⟩
structure Ins where
  op : Int
  a : Int
  b : Int
  c : Int
  n : Int
  k : Int
  i : Int
  t : ByteArray
def Ins.val (x : Ins) : Value := .agg #[.int .i64 x.op, .int .i64 x.a, .int .i64 x.b, .int .i64 x.c, .int .i64 x.n, .int .i64 x.k, .int .i64 x.i, .string x.t]
def Ins.cells (x : Ins) : List Value := [.int .i64 x.op, .int .i64 x.a, .int .i64 x.b, .int .i64 x.c, .int .i64 x.n, .int .i64 x.k, .int .i64 x.i, .string x.t]
abbrev io (o a b c n k i : Int) (t : ByteArray) : Obj := .cells #[.int .i64 o, .int .i64 a, .int .i64 b, .int .i64 c, .int .i64 n, .int .i64 k, .int .i64 i, .string t] 31
def Fk.get : Fk → Ins → Int
  | .a, x => x.a
  | .b, x => x.b
  | .c, x => x.c
  | .skp, x => x.a
  | .arg, x => x.n
  | .cmp, x => x.n
  | .look, x => x.n
def Fk.set : Fk → Int → Ins → Ins
  | .a, v, x => { x with a := v }
  | .b, v, x => { x with b := v }
  | .c, v, x => { x with c := v }
  | .skp, v, x => { x with a := v }
  | .arg, v, x => { x with n := v }
  | .cmp, v, x => { x with n := v }
  | .look, v, x => { x with n := v }
def Fk.part : Fk → Nat
  | .a => 53
  | .b => 54
  | .c => 55
  | .skp => 53
  | .arg => 57
  | .cmp => 57
  | .look => 57
def Fk.pos : Fk → Nat
  | .a => 1
  | .b => 2
  | .c => 3
  | .skp => 1
  | .arg => 4
  | .cmp => 4
  | .look => 4
def Fk.fit : Fk → Nat
  | .a => 86
  | .b => 86
  | .c => 86
  | .skp => 59
  | .arg => 58
  | .cmp => 60
  | .look => 61
def Fk.lay : Fk → Nat
  | .a => 87
  | .b => 87
  | .c => 87
  | _ => 89
def Fk.tak : Fk → Nat
  | .a => 88
  | .b => 88
  | .c => 88
  | _ => 90
theorem Fk.cells_eq (f : Fk) : f.cells = [fn f.part, fn f.fit, fn f.lay, fn f.tak] := by cases f <;> rfl
def Fk.fits : Fk → Int → Int → Int → Bool
  | .a, v, _, _ => withinB v 0 15
  | .b, v, _, _ => withinB v 0 15
  | .c, v, _, _ => withinB v 0 15
  | .skp, v, _, bh => withinB v 1 bh
  | .arg, v, ar, _ => withinB v 0 (wrap64 (ar - 1))
  | .cmp, v, _, _ => withinB v 1 6
  | .look, v, _, _ => withinB v 1 64
theorem part_any (f : Fk) (r : Nat) (w : World) : Calls Tryz.prog f.part #[.pointer (some ⟨r, 0, none⟩)] w fun x w' => x = .returned (.pointer (some ⟨r, f.pos, none⟩)) ∧ w' = w := by
  cases f
  all_goals dsimp only [Fk.part, Fk.pos]
  all_goals first
    | (go_enter Tryz.func53, Tryz.ntmps53; go_wp2; go_ret; exact ⟨rfl, rfl⟩)
    | (go_enter Tryz.func54, Tryz.ntmps54; go_wp2; go_ret; exact ⟨rfl, rfl⟩)
    | (go_enter Tryz.func55, Tryz.ntmps55; go_wp2; go_ret; exact ⟨rfl, rfl⟩)
    | (go_enter Tryz.func57, Tryz.ntmps57; go_wp2; go_ret; exact ⟨rfl, rfl⟩)
theorem fit_any (f : Fk) (v ar bh : Int) (w : World) : Calls Tryz.prog f.fit #[.int .i64 v, .agg #[.int .i64 ar, .int .i64 bh]] w fun x w' => x = .returned (.bool (f.fits v ar bh)) ∧ w' = w.alloc (.cells #[.int .i64 ar, .int .i64 bh] 102) := by
  cases f
  all_goals dsimp only [Fk.fit, Fk.fits]
  · go_enter Tryz.func86, Tryz.ntmps86; go_wp2_with (go_at_call 36; refine (within_any _ _ _ _).mono ?_; rintro e w' ⟨rfl, rfl⟩); go_ret; exact ⟨rfl, rfl⟩
  · go_enter Tryz.func86, Tryz.ntmps86; go_wp2_with (go_at_call 36; refine (within_any _ _ _ _).mono ?_; rintro e w' ⟨rfl, rfl⟩); go_ret; exact ⟨rfl, rfl⟩
  · go_enter Tryz.func86, Tryz.ntmps86; go_wp2_with (go_at_call 36; refine (within_any _ _ _ _).mono ?_; rintro e w' ⟨rfl, rfl⟩); go_ret; exact ⟨rfl, rfl⟩
  · go_enter Tryz.func58, Tryz.ntmps58; go_wp2_with (go_at_call 36; refine (within_any _ _ _ _).mono ?_; rintro e w' ⟨rfl, rfl⟩); go_ret; exact ⟨rfl, rfl⟩
  · go_enter Tryz.func59, Tryz.ntmps59; go_wp2_with (go_at_call 36; refine (within_any _ _ _ _).mono ?_; rintro e w' ⟨rfl, rfl⟩); go_ret; exact ⟨rfl, rfl⟩
  · go_enter Tryz.func60, Tryz.ntmps60; go_wp2_with (go_at_call 36; refine (within_any _ _ _ _).mono ?_; rintro e w' ⟨rfl, rfl⟩); go_ret; exact ⟨rfl, rfl⟩
  · go_enter Tryz.func61, Tryz.ntmps61; go_wp2_with (go_at_call 36; refine (within_any _ _ _ _).mono ?_; rintro e w' ⟨rfl, rfl⟩); go_ret; exact ⟨rfl, rfl⟩
end Go.Proofs.YthcoigbkdbkojabGreat
