import Derived.Test.YtiammlngbejhkaaK02
import Derived.Laws.EntriesVeiled
import Derived.Test.YtiammlngbejhkaaK04
namespace Go.Proofs.Ytiammlngbejhkaa
open Go.RowKit

/-- The table of comparisons in the heap. -/
abbrev cmpTab : Obj := .cells #[.int .i64 1, .func (.func 71) #[] #[], .int .i64 2, .func (.func 72) #[] #[], .int .i64 3, .func (.func 73) #[] #[], .int .i64 4, .func (.func 74) #[] #[], .int .i64 5, .func (.func 75) #[] #[], .int .i64 6, .func (.func 76) #[] #[]] 68

set_option maxRecDepth 100000 in
set_option maxHeartbeats 1600000 in
theorem comparisons_any (w : World) : Calls Try.prog 40 #[] w fun x w' => x = .returned (.slice (some ⟨w.heap.size, 0, none⟩) 6 6) ∧ w'.heap[w.heap.size]? = some cmpTab ∧ Below w.heap.size w w' := by
  go_enter Try.func40, Try.ntmps40
  go_wp2
  go_ret
  exact ⟨rfl, heap_alloc_new w _, below1 w _⟩

set_option maxRecDepth 100000 in
set_option maxHeartbeats 800000 in
theorem met1 (c : Int) (w : World) : Calls Try.prog 71 #[.int .i64 c] w fun x w' => x = .returned (.bool (c == 0)) ∧ w' = w := by
  go_enter Try.func71, Try.ntmps71
  go_wp2
  go_ret
  exact ⟨rfl, rfl⟩

set_option maxRecDepth 100000 in
set_option maxHeartbeats 800000 in
theorem met2 (c : Int) (w : World) : Calls Try.prog 72 #[.int .i64 c] w fun x w' => x = .returned (.bool (!(c == 0))) ∧ w' = w := by
  go_enter Try.func72, Try.ntmps72
  go_wp2
  go_ret
  exact ⟨rfl, rfl⟩

set_option maxRecDepth 100000 in
set_option maxHeartbeats 800000 in
theorem met3 (c : Int) (w : World) : Calls Try.prog 73 #[.int .i64 c] w fun x w' => x = .returned (.bool (decide (c < 0))) ∧ w' = w := by
  go_enter Try.func73, Try.ntmps73
  go_wp2
  go_ret
  exact ⟨rfl, rfl⟩

set_option maxRecDepth 100000 in
set_option maxHeartbeats 800000 in
theorem met4 (c : Int) (w : World) : Calls Try.prog 74 #[.int .i64 c] w fun x w' => x = .returned (.bool (decide (c ≤ 0))) ∧ w' = w := by
  go_enter Try.func74, Try.ntmps74
  go_wp2
  go_ret
  exact ⟨rfl, rfl⟩

set_option maxRecDepth 100000 in
set_option maxHeartbeats 800000 in
theorem met5 (c : Int) (w : World) : Calls Try.prog 75 #[.int .i64 c] w fun x w' => x = .returned (.bool (decide (0 < c))) ∧ w' = w := by
  go_enter Try.func75, Try.ntmps75
  go_wp2
  go_ret
  exact ⟨rfl, rfl⟩

set_option maxRecDepth 100000 in
set_option maxHeartbeats 800000 in
theorem met6 (c : Int) (w : World) : Calls Try.prog 76 #[.int .i64 c] w fun x w' => x = .returned (.bool (decide (0 ≤ c))) ∧ w' = w := by
  go_enter Try.func76, Try.ntmps76
  go_wp2
  go_ret
  exact ⟨rfl, rfl⟩

end Go.Proofs.Ytiammlngbejhkaa

namespace Go.Proofs.Ytiammlngbejhkaa
open Go.RowKit

/-- Does a comparison hold, by what Compare answers? -/
def holdsB (how c : Int) : Bool :=
  if how = 1 then c == 0 else if how = 2 then !(c == 0) else if how = 3 then decide (c < 0) else if how = 4 then decide (c ≤ 0) else if how = 5 then decide (0 < c) else if how = 6 then decide (0 ≤ c) else false

theorem tab_cells {w : World} {r : Nat} (h : w.heap[r]? = some cmpTab) :
    w.cell? ⟨r, 0, none⟩ = some (.int .i64 1) ∧ w.cell? ⟨r, 1, none⟩ = some (.func (.func 71) #[] #[]) ∧ w.cell? ⟨r, 2, none⟩ = some (.int .i64 2) ∧ w.cell? ⟨r, 3, none⟩ = some (.func (.func 72) #[] #[]) ∧
    w.cell? ⟨r, 4, none⟩ = some (.int .i64 3) ∧ w.cell? ⟨r, 5, none⟩ = some (.func (.func 73) #[] #[]) ∧ w.cell? ⟨r, 6, none⟩ = some (.int .i64 4) ∧ w.cell? ⟨r, 7, none⟩ = some (.func (.func 74) #[] #[]) ∧
    w.cell? ⟨r, 8, none⟩ = some (.int .i64 5) ∧ w.cell? ⟨r, 9, none⟩ = some (.func (.func 75) #[] #[]) ∧ w.cell? ⟨r, 10, none⟩ = some (.int .i64 6) ∧ w.cell? ⟨r, 11, none⟩ = some (.func (.func 76) #[] #[]) := by
  refine ⟨?_, ?_, ?_, ?_, ?_, ?_, ?_, ?_, ?_, ?_, ?_, ?_⟩ <;> (rw [cell_of_row w r _ _ _ _ h]; rfl)

theorem tab_at {w : World} {r : Nat} (h : w.heap[r]? = some cmpTab) (n : Nat) (hn : n < 6) :
    w.cell? ⟨r, n * 2, none⟩ = some (.int .i64 (n + 1)) ∧ w.cell? ⟨r, n * 2 + 1, none⟩ = some (.func (.func (71 + n)) #[] #[]) := by
  obtain ⟨t0, t1, t2, t3, t4, t5, t6, t7, t8, t9, t10, t11⟩ := tab_cells h
  rcases (by omega : n = 0 ∨ n = 1 ∨ n = 2 ∨ n = 3 ∨ n = 4 ∨ n = 5) with rfl | rfl | rfl | rfl | rfl | rfl
  · exact ⟨t0, t1⟩
  · exact ⟨t2, t3⟩
  · exact ⟨t4, t5⟩
  · exact ⟨t6, t7⟩
  · exact ⟨t8, t9⟩
  · exact ⟨t10, t11⟩

theorem met_any (n : Nat) (hn : n < 6) (c : Int) (w : World) : Calls Try.prog (71 + n) #[.int .i64 c] w fun x w' => x = .returned (.bool (holdsB (n + 1) c)) ∧ w' = w := by
  rcases (by omega : n = 0 ∨ n = 1 ∨ n = 2 ∨ n = 3 ∨ n = 4 ∨ n = 5) with rfl | rfl | rfl | rfl | rfl | rfl
  · exact met1 c w
  · exact met2 c w
  · exact met3 c w
  · exact met4 c w
  · exact met5 c w
  · exact met6 c w

/-- Behind the call within the round. -/
theorem holds_close {w wr : World} (b : Bool) (h : Below w.heap.size w wr) : ∀ (o : Obj) (w2 : World), Below (wr.alloc o).heap.size (wr.alloc o) w2 → Below w.heap.size w w2 := by
  have _ := b
  intro o w2 h2
  exact (h.alloc h.size o).trans (h2.mono (h.alloc h.size o).size)

theorem blk_alloc {wr w2 : World} {p o : Obj} {r : Nat} (h : Below (wr.alloc o).heap.size (wr.alloc o).drew w2) (hr : wr.heap[r]? = some p) : w2.heap[r]? = some p := by
  have h1 := lt_of hr
  rw [h.block r (by simp; omega)]
  exact (Below.heap_alloc _ _ _ h1).trans hr

theorem fn_cell {wr w2 : World} {a b : Value} (h : Below (wr.alloc (.cells #[a, b] 68)).heap.size (wr.alloc (.cells #[a, b] 68)).drew w2) : w2.cell? ⟨wr.heap.size, 1, none⟩ = some b := by
  have h1 : w2.heap[wr.heap.size]? = some (.cells #[a, b] 68 (0, 0)) := (h.block _ (by simp)).trans (heap_alloc_new wr _)
  rw [cell_of_row w2 _ _ _ _ _ h1]
  rfl

set_option maxRecDepth 100000 in
set_option maxHeartbeats 1600000 in
theorem holds_any (how k i : Int) (s : ByteArray) (l j : Int) (t : ByteArray) (w : World) : Calls Try.prog 14 #[.int .i64 how, vl k i s, vl l j t] w fun x w' => x = .returned (.bool (holdsB how (cmpV k i s l j t))) ∧ Below w.heap.size w w' := by
  have hB0 := hid (below2 w (vo k i s) (vo l j t))
  have hR1 := hid (two1 w (vo k i s) (vo l j t))
  have hR2 := hid (two2 w (vo k i s) (vo l j t))
  go_enter Try.func14, Try.ntmps14
  go_wp2_with (
           go_at_call 40
           refine (comparisons_any _).mono ?_
           rintro e w1 ⟨rfl, ht1, hb1⟩
           have ht1 : w1.heap[w.heap.size + 1 + 1]? = some cmpTab := by simpa using ht1
           have H1 := hid (And.intro ht1 (And.intro (blk_of hb1 hR1.out (by simp; omega)) (And.intro (blk_of hb1 hR2.out (by simp)) (hB0.out.trans (hb1.mono hB0.out.size)))))
           clear hb1 ht1)
  go_loopw [11] (fun ix wr => ∃ n : Nat, n ≤ 6 ∧ ix = .int .i64 n ∧ Hid (Below w1.heap.size w1 wr) ∧ Hid (∀ m : Nat, m < n → how ≠ m + 1)) (fun ix _ => 6 - (intOf ix).toNat)
  case atStart => exact ⟨0, by omega, rfl, hid (Below.refl _ _), hid (by intro m hm; omega)⟩
  case round =>
    obtain ⟨n, hn, rfl, hb, hm⟩ := hrel
    by_cases hlt : n < 6
    · have hT := tab_at (blk_of hb.out H1.out.1 (lt_of H1.out.1)) n hlt
      have hlt' : (n : Int) < 6 := by omega
      by_cases hh : how = n + 1
      · subst hh
        obtain ⟨c0, c1, c2, -⟩ := vfacts (blk_of hb.out H1.out.2.1 (lt_of H1.out.2.1))
        obtain ⟨d0, d1, d2, -⟩ := vfacts (blk_of hb.out H1.out.2.2.1 (lt_of H1.out.2.2.1))
        have n1 := World.new_ne wr ⟨w.heap.size, 0, none⟩ c0
        have n2 := World.new_ne wr ⟨w.heap.size + 1, 0, none⟩ d0
        have hc := hid (holds_close (holdsB (n + 1) (cmpV k i s l j t)) (H1.out.2.2.2.trans (hb.out.mono H1.out.2.2.2.size)))
        have hA := hid (blk_of hb.out H1.out.2.1 (lt_of H1.out.2.1))
        have hD := hid (blk_of hb.out H1.out.2.2.1 (lt_of H1.out.2.2.1))
        clear H1 hb
        obtain ⟨T0, T1⟩ := hT
        rcases (by omega : n = 0 ∨ n = 1 ∨ n = 2 ∨ n = 3 ∨ n = 4 ∨ n = 5) with rfl | rfl | rfl | rfl | rfl | rfl
        · have hmet := hid (met_any 0 (by omega) (cmpV k i s l j t))
          go_wp2
          go_region_held (fun w' => w'.cell? ⟨wr.heap.size, 1, none⟩ = some (.func (.func 71) #[] #[]) ∧ w'.cell? ⟨w.heap.size, 0, none⟩ = some (.int .i64 k) ∧ w'.cell? ⟨w.heap.size, 1, none⟩ = some (.int .i64 i) ∧ w'.cell? ⟨w.heap.size, 2, none⟩ = some (.string s) ∧ w'.cell? ⟨w.heap.size + 1, 0, none⟩ = some (.int .i64 l) ∧ w'.cell? ⟨w.heap.size + 1, 1, none⟩ = some (.int .i64 j) ∧ w'.cell? ⟨w.heap.size + 1, 2, none⟩ = some (.string t)) (go_keep) (first
            | (go_at_call 12
               refine (compare_any k i s l j t _).mono ?_
               rintro e w2 ⟨rfl, hb2⟩
               have f1 : w2.cell? ⟨wr.heap.size, 1, none⟩ = some (.func (.func 71) #[] #[]) := fn_cell hb2
               obtain ⟨c0, c1, c2, -⟩ := vfacts (blk_alloc hb2 hA.out)
               obtain ⟨d0, d1, d2, -⟩ := vfacts (blk_alloc hb2 hD.out)
               have HB2 := hid hb2
               clear hb2)
            | (go_at_call 71
               refine (hmet.out _).mono ?_
               rintro e w3 ⟨rfl, e3⟩
               rw [e3]
               clear e3 w3))
          go_wp2
          go_ret
          exact ⟨rfl, hc.out _ w2 ⟨HB2.out.os, HB2.out.tape, HB2.out.output, HB2.out.size, HB2.out.block⟩⟩
        · have hmet := hid (met_any 1 (by omega) (cmpV k i s l j t))
          go_wp2
          go_region_held (fun w' => w'.cell? ⟨wr.heap.size, 1, none⟩ = some (.func (.func 72) #[] #[]) ∧ w'.cell? ⟨w.heap.size, 0, none⟩ = some (.int .i64 k) ∧ w'.cell? ⟨w.heap.size, 1, none⟩ = some (.int .i64 i) ∧ w'.cell? ⟨w.heap.size, 2, none⟩ = some (.string s) ∧ w'.cell? ⟨w.heap.size + 1, 0, none⟩ = some (.int .i64 l) ∧ w'.cell? ⟨w.heap.size + 1, 1, none⟩ = some (.int .i64 j) ∧ w'.cell? ⟨w.heap.size + 1, 2, none⟩ = some (.string t)) (go_keep) (first
            | (go_at_call 12
               refine (compare_any k i s l j t _).mono ?_
               rintro e w2 ⟨rfl, hb2⟩
               have f1 : w2.cell? ⟨wr.heap.size, 1, none⟩ = some (.func (.func 72) #[] #[]) := fn_cell hb2
               obtain ⟨c0, c1, c2, -⟩ := vfacts (blk_alloc hb2 hA.out)
               obtain ⟨d0, d1, d2, -⟩ := vfacts (blk_alloc hb2 hD.out)
               have HB2 := hid hb2
               clear hb2)
            | (go_at_call 72
               refine (hmet.out _).mono ?_
               rintro e w3 ⟨rfl, e3⟩
               rw [e3]
               clear e3 w3))
          go_wp2
          go_ret
          exact ⟨rfl, hc.out _ w2 ⟨HB2.out.os, HB2.out.tape, HB2.out.output, HB2.out.size, HB2.out.block⟩⟩
        · have hmet := hid (met_any 2 (by omega) (cmpV k i s l j t))
          go_wp2
          go_region_held (fun w' => w'.cell? ⟨wr.heap.size, 1, none⟩ = some (.func (.func 73) #[] #[]) ∧ w'.cell? ⟨w.heap.size, 0, none⟩ = some (.int .i64 k) ∧ w'.cell? ⟨w.heap.size, 1, none⟩ = some (.int .i64 i) ∧ w'.cell? ⟨w.heap.size, 2, none⟩ = some (.string s) ∧ w'.cell? ⟨w.heap.size + 1, 0, none⟩ = some (.int .i64 l) ∧ w'.cell? ⟨w.heap.size + 1, 1, none⟩ = some (.int .i64 j) ∧ w'.cell? ⟨w.heap.size + 1, 2, none⟩ = some (.string t)) (go_keep) (first
            | (go_at_call 12
               refine (compare_any k i s l j t _).mono ?_
               rintro e w2 ⟨rfl, hb2⟩
               have f1 : w2.cell? ⟨wr.heap.size, 1, none⟩ = some (.func (.func 73) #[] #[]) := fn_cell hb2
               obtain ⟨c0, c1, c2, -⟩ := vfacts (blk_alloc hb2 hA.out)
               obtain ⟨d0, d1, d2, -⟩ := vfacts (blk_alloc hb2 hD.out)
               have HB2 := hid hb2
               clear hb2)
            | (go_at_call 73
               refine (hmet.out _).mono ?_
               rintro e w3 ⟨rfl, e3⟩
               rw [e3]
               clear e3 w3))
          go_wp2
          go_ret
          exact ⟨rfl, hc.out _ w2 ⟨HB2.out.os, HB2.out.tape, HB2.out.output, HB2.out.size, HB2.out.block⟩⟩
        · have hmet := hid (met_any 3 (by omega) (cmpV k i s l j t))
          go_wp2
          go_region_held (fun w' => w'.cell? ⟨wr.heap.size, 1, none⟩ = some (.func (.func 74) #[] #[]) ∧ w'.cell? ⟨w.heap.size, 0, none⟩ = some (.int .i64 k) ∧ w'.cell? ⟨w.heap.size, 1, none⟩ = some (.int .i64 i) ∧ w'.cell? ⟨w.heap.size, 2, none⟩ = some (.string s) ∧ w'.cell? ⟨w.heap.size + 1, 0, none⟩ = some (.int .i64 l) ∧ w'.cell? ⟨w.heap.size + 1, 1, none⟩ = some (.int .i64 j) ∧ w'.cell? ⟨w.heap.size + 1, 2, none⟩ = some (.string t)) (go_keep) (first
            | (go_at_call 12
               refine (compare_any k i s l j t _).mono ?_
               rintro e w2 ⟨rfl, hb2⟩
               have f1 : w2.cell? ⟨wr.heap.size, 1, none⟩ = some (.func (.func 74) #[] #[]) := fn_cell hb2
               obtain ⟨c0, c1, c2, -⟩ := vfacts (blk_alloc hb2 hA.out)
               obtain ⟨d0, d1, d2, -⟩ := vfacts (blk_alloc hb2 hD.out)
               have HB2 := hid hb2
               clear hb2)
            | (go_at_call 74
               refine (hmet.out _).mono ?_
               rintro e w3 ⟨rfl, e3⟩
               rw [e3]
               clear e3 w3))
          go_wp2
          go_ret
          exact ⟨rfl, hc.out _ w2 ⟨HB2.out.os, HB2.out.tape, HB2.out.output, HB2.out.size, HB2.out.block⟩⟩
        · have hmet := hid (met_any 4 (by omega) (cmpV k i s l j t))
          go_wp2
          go_region_held (fun w' => w'.cell? ⟨wr.heap.size, 1, none⟩ = some (.func (.func 75) #[] #[]) ∧ w'.cell? ⟨w.heap.size, 0, none⟩ = some (.int .i64 k) ∧ w'.cell? ⟨w.heap.size, 1, none⟩ = some (.int .i64 i) ∧ w'.cell? ⟨w.heap.size, 2, none⟩ = some (.string s) ∧ w'.cell? ⟨w.heap.size + 1, 0, none⟩ = some (.int .i64 l) ∧ w'.cell? ⟨w.heap.size + 1, 1, none⟩ = some (.int .i64 j) ∧ w'.cell? ⟨w.heap.size + 1, 2, none⟩ = some (.string t)) (go_keep) (first
            | (go_at_call 12
               refine (compare_any k i s l j t _).mono ?_
               rintro e w2 ⟨rfl, hb2⟩
               have f1 : w2.cell? ⟨wr.heap.size, 1, none⟩ = some (.func (.func 75) #[] #[]) := fn_cell hb2
               obtain ⟨c0, c1, c2, -⟩ := vfacts (blk_alloc hb2 hA.out)
               obtain ⟨d0, d1, d2, -⟩ := vfacts (blk_alloc hb2 hD.out)
               have HB2 := hid hb2
               clear hb2)
            | (go_at_call 75
               refine (hmet.out _).mono ?_
               rintro e w3 ⟨rfl, e3⟩
               rw [e3]
               clear e3 w3))
          go_wp2
          go_ret
          exact ⟨rfl, hc.out _ w2 ⟨HB2.out.os, HB2.out.tape, HB2.out.output, HB2.out.size, HB2.out.block⟩⟩
        · have hmet := hid (met_any 5 (by omega) (cmpV k i s l j t))
          go_wp2
          go_region_held (fun w' => w'.cell? ⟨wr.heap.size, 1, none⟩ = some (.func (.func 76) #[] #[]) ∧ w'.cell? ⟨w.heap.size, 0, none⟩ = some (.int .i64 k) ∧ w'.cell? ⟨w.heap.size, 1, none⟩ = some (.int .i64 i) ∧ w'.cell? ⟨w.heap.size, 2, none⟩ = some (.string s) ∧ w'.cell? ⟨w.heap.size + 1, 0, none⟩ = some (.int .i64 l) ∧ w'.cell? ⟨w.heap.size + 1, 1, none⟩ = some (.int .i64 j) ∧ w'.cell? ⟨w.heap.size + 1, 2, none⟩ = some (.string t)) (go_keep) (first
            | (go_at_call 12
               refine (compare_any k i s l j t _).mono ?_
               rintro e w2 ⟨rfl, hb2⟩
               have f1 : w2.cell? ⟨wr.heap.size, 1, none⟩ = some (.func (.func 76) #[] #[]) := fn_cell hb2
               obtain ⟨c0, c1, c2, -⟩ := vfacts (blk_alloc hb2 hA.out)
               obtain ⟨d0, d1, d2, -⟩ := vfacts (blk_alloc hb2 hD.out)
               have HB2 := hid hb2
               clear hb2)
            | (go_at_call 76
               refine (hmet.out _).mono ?_
               rintro e w3 ⟨rfl, e3⟩
               rw [e3]
               clear e3 w3))
          go_wp2
          go_ret
          exact ⟨rfl, hc.out _ w2 ⟨HB2.out.os, HB2.out.tape, HB2.out.output, HB2.out.size, HB2.out.block⟩⟩
      · have hh2 : ((n : Int) + 1 == how) = false := by simp; omega
        obtain ⟨T0, T1⟩ := hT
        have i1 : (0 : Int) ≤ (n : Int) := by omega
        go_wp2
        refine ⟨⟨n + 1, by omega, by simp, hid (hb.out.alloc hb.out.size _), hid ?_⟩, by simp [intOf]; omega⟩
        intro m hm1
        rcases Nat.lt_succ_iff_lt_or_eq.1 hm1 with h | rfl
        · exact hm.out m h
        · exact hh
    · have he : n = 6 := by omega
      subst he
      go_wp2
      go_ret
      refine ⟨?_, H1.out.2.2.2.trans (hb.out.mono H1.out.2.2.2.size)⟩
      have h1 := hm.out 0 (by omega)
      have h2 := hm.out 1 (by omega)
      have h3 := hm.out 2 (by omega)
      have h4 := hm.out 3 (by omega)
      have h5 := hm.out 4 (by omega)
      have h6 := hm.out 5 (by omega)
      rw [show holdsB how (cmpV k i s l j t) = false by unfold holdsB; simp_all]
      rfl

end Go.Proofs.Ytiammlngbejhkaa

namespace Go.Proofs.Ytiammlngbejhkaa
open Go.RowKit

theorem rckT_shape (a b : Bool) (v : Int) : ∃ x y z u, rckT a b v = .tuple #[vl x y z, .int .i64 u] := by
  unfold rckT rckV
  split
  · split
    · exact ⟨_, _, _, _, rfl⟩
    · exact ⟨_, _, _, _, rfl⟩
  · exact ⟨_, _, _, _, rfl⟩

set_option maxRecDepth 100000 in
set_option maxHeartbeats 800000 in
theorem add_any (k i : Int) (s : ByteArray) (l j : Int) (t : ByteArray) (hi : inR i = true) (hj : inR j = true) (w : World) :
    Calls Try.prog 18 #[vl k i s, vl l j t] w fun e w' => e = .returned (rckT (isI k s) (isI l t) (i + j)) ∧ Below w.heap.size w w' := by
  obtain ⟨-, -, hC, h0⟩ := three w (vo k i s) (vo l j t) (vo 0 0 emp)
  have HC := hid hC
  have H0 := hid h0
  clear hC h0
  have hr := hid (reckon_any 42 k i s l j t (i + j) (fun _ _ => sum_reck i j hi hj) (enters_of Try.func42 (by kernel_rfl) rfl))
  have hsh := hid (rckT_shape (isI k s) (isI l t) (i + j))
  go_enter Try.func18, Try.ntmps18
  go_wp2_with (
    go_at_call 41
    refine (hr.out _).mono ?_
    rintro e w1 ⟨rfl, hb1⟩
    obtain ⟨a, b, c, d, hs⟩ := hsh.out
    rw [hs]
    have g2 := blk_of hb1 HC.out (by simp)
    obtain ⟨c0, c1, c2, ff⟩ := vfacts g2
    have HS := hid hs
    have H1 := hid (And.intro g2 (below_on H0.out hb1))
    clear hb1 g2 hs)
  refine bodyPost_ret (ret_agg2 Try.results18 rfl (set3 H1.out.1 _ _ _)) rfl ?_
  exact ⟨by rw [HS.out]; rfl, Below.set3 H1.out.2 (by omega) _ _ _⟩

set_option maxRecDepth 100000 in
set_option maxHeartbeats 800000 in
theorem sub_any (k i : Int) (s : ByteArray) (l j : Int) (t : ByteArray) (hi : inR i = true) (hj : inR j = true) (w : World) :
    Calls Try.prog 20 #[vl k i s, vl l j t] w fun e w' => e = .returned (rckT (isI k s) (isI l t) (i - j)) ∧ Below w.heap.size w w' := by
  obtain ⟨-, -, hC, h0⟩ := three w (vo k i s) (vo l j t) (vo 0 0 emp)
  have HC := hid hC
  have H0 := hid h0
  clear hC h0
  have hr := hid (reckon_any 45 k i s l j t (i - j) (fun _ _ => diff_reck i j hi hj) (enters_of Try.func45 (by kernel_rfl) rfl))
  have hsh := hid (rckT_shape (isI k s) (isI l t) (i - j))
  go_enter Try.func20, Try.ntmps20
  go_wp2_with (
    go_at_call 41
    refine (hr.out _).mono ?_
    rintro e w1 ⟨rfl, hb1⟩
    obtain ⟨a, b, c, d, hs⟩ := hsh.out
    rw [hs]
    have g2 := blk_of hb1 HC.out (by simp)
    obtain ⟨c0, c1, c2, ff⟩ := vfacts g2
    have HS := hid hs
    have H1 := hid (And.intro g2 (below_on H0.out hb1))
    clear hb1 g2 hs)
  refine bodyPost_ret (ret_agg2 Try.results20 rfl (set3 H1.out.1 _ _ _)) rfl ?_
  exact ⟨by rw [HS.out]; rfl, Below.set3 H1.out.2 (by omega) _ _ _⟩

set_option maxRecDepth 100000 in
set_option maxHeartbeats 800000 in
theorem mul_any (k i : Int) (s : ByteArray) (l j : Int) (t : ByteArray) (hi : inR i = true) (hj : inR j = true) (w : World) :
    Calls Try.prog 22 #[vl k i s, vl l j t] w fun e w' => e = .returned (rckT (isI k s) (isI l t) (i * j)) ∧ Below w.heap.size w w' := by
  obtain ⟨-, -, hC, h0⟩ := three w (vo k i s) (vo l j t) (vo 0 0 emp)
  have HC := hid hC
  have H0 := hid h0
  clear hC h0
  have hr := hid (reckon_any 46 k i s l j t (i * j) (fun _ _ => prod_reck i j hi hj) (enters_of Try.func46 (by kernel_rfl) rfl))
  have hsh := hid (rckT_shape (isI k s) (isI l t) (i * j))
  go_enter Try.func22, Try.ntmps22
  go_wp2_with (
    go_at_call 41
    refine (hr.out _).mono ?_
    rintro e w1 ⟨rfl, hb1⟩
    obtain ⟨a, b, c, d, hs⟩ := hsh.out
    rw [hs]
    have g2 := blk_of hb1 HC.out (by simp)
    obtain ⟨c0, c1, c2, ff⟩ := vfacts g2
    have HS := hid hs
    have H1 := hid (And.intro g2 (below_on H0.out hb1))
    clear hb1 g2 hs)
  refine bodyPost_ret (ret_agg2 Try.results22 rfl (set3 H1.out.1 _ _ _)) rfl ?_
  exact ⟨by rw [HS.out]; rfl, Below.set3 H1.out.2 (by omega) _ _ _⟩

/-- The key that a value is. -/
def keyV (k i : Int) (s : ByteArray) : Value := if k = 2 ∧ i = 0 ∧ s.size ≤ 256 then (if isKeyB s = true then .tuple #[.string s, .int .i64 0] else .tuple #[.string emp, .int .i64 5]) else .tuple #[.string emp, .int .i64 14]

set_option maxRecDepth 100000 in
set_option maxHeartbeats 800000 in
theorem key_any (k i : Int) (s : ByteArray) (w : World) : Calls Try.prog 26 #[vl k i s] w fun e w' => e = .returned (keyV k i s) ∧ Below w.heap.size w w' := by
  have hB0 := hid (below1 w (vo k i s))
  have q1 := ta6062
  have q2 := ta62
  have q3 := tan62
  have ha := checked_any k i s
  rcases chd_cases k i s with ⟨rfl, rfl, h⟩ | ⟨rfl, rfl, h2, h⟩ | ⟨h, h1, h2⟩
  · rw [h] at ha
    have PA := hid ha
    have hk : keyV 1 i emp = .tuple #[.string emp, .int .i64 14] := by unfold keyV; rw [if_neg (by omega)]
    rw [hk]
    clear ha h hk
    go_enter Try.func26, Try.ntmps26
    go_wp2_with (
       go_at_call 47
       refine (PA.out _).mono ?_
       rintro e w1 ⟨rfl, hb1⟩
       have H1 := hid (below_on hB0.out hb1)
       clear hb1)
    go_ret2
    exact ⟨rfl, H1.out⟩
  · rw [h] at ha
    have PA := hid ha
    clear ha h
    obtain ⟨b, hb⟩ : ∃ b, b = isKeyB s := ⟨_, rfl⟩
    have hik := isKey_any s
    rw [← hb] at hik
    have HK := hid hik
    have hk : keyV 2 0 s = if b = true then .tuple #[.string s, .int .i64 0] else .tuple #[.string emp, .int .i64 5] := by unfold keyV; rw [if_pos ⟨rfl, rfl, h2⟩, hb]
    rw [hk]
    clear hik hb hk
    cases b
    all_goals
      go_enter Try.func26, Try.ntmps26
      go_wp2_with (first
       | (go_at_call 47
          refine (PA.out _).mono ?_
          rintro e w1 ⟨rfl, hb1⟩
          have H1 := hid (below_on hB0.out hb1)
          clear hb1)
       | (go_at_call 16
          refine (HK.out _).mono ?_
          rintro e w2 ⟨rfl, e2⟩
          rw [e2]
          clear e2 w2)
       | (go_at_call 50
          refine (strClone_any s _ (by omega)).mono ?_
          rintro e w3 ⟨rfl, hb3⟩
          have H3 := hid (below_on H1.out hb3)
          clear hb3))
      go_ret2
      first
        | exact ⟨rfl, H3.out⟩
        | exact ⟨rfl, H1.out⟩
  · rw [h] at ha
    have PA := hid ha
    have hk : keyV k i s = .tuple #[.string emp, .int .i64 14] := by unfold keyV; rw [if_neg h2]
    rw [hk]
    clear ha h h2 h1 hk
    go_enter Try.func26, Try.ntmps26
    go_wp2_with (
       go_at_call 47
       refine (PA.out _).mono ?_
       rintro e w1 ⟨rfl, hb1⟩
       have H1 := hid (below_on hB0.out hb1)
       clear hb1)
    go_ret2
    exact ⟨rfl, H1.out⟩

end Go.Proofs.Ytiammlngbejhkaa

namespace Go.Proofs.Ytiammlngbejhkaa
open Go.RowKit

theorem drewN_drewN' (w : World) (n m : Nat) : (w.drewN n).drewN m = w.drewN (n + m) := by
  simp [World.drewN, Nat.add_assoc]

theorem take_eq_step (xs ys : List Int) (k : Nat) (ha : k < xs.length) (hb : k < ys.length) (h : xs.take k = ys.take k) : xs.take (k + 1) = ys.take (k + 1) ↔ xs[k] = ys[k] := by
  rw [List.take_succ_eq_append_getElem ha, List.take_succ_eq_append_getElem hb, h]
  constructor
  · intro h2
    have := List.append_cancel_left h2
    injection this
  · intro h2
    rw [h2]

/-- w' is w behind some draws. -/
def DN (w w' : World) : Prop := ∃ nq, w' = w.drewN nq
theorem DN.refl (w : World) : DN w w := ⟨0, rfl⟩
theorem DN.more {w w' : World} (h : DN w w') (n : Nat) : DN w (w'.drewN n) := by
  obtain ⟨k, rfl⟩ := h
  exact ⟨_, drewN_drewN' _ _ _⟩
theorem DN.cell {w w' : World} (h : DN w w') (a : Addr) : w'.cell? a = w.cell? a := by
  obtain ⟨k, rfl⟩ := h
  simp

set_option maxRecDepth 100000 in
set_option maxHeartbeats 800000 in
theorem bytes_any (a b : Value) (xs ys : List Int) (w : World) (ha : Sl w a xs) (hb : Sl w b ys) (hl : xs.length ≤ 1000000000) :
    Calls Try.prog 30 #[a, b] w fun x w' => DN w w' ∧ x = .returned (.bool (decide (xs = ys))) := by
  obtain ⟨r, hr⟩ : ∃ r, r = decide (xs = ys) := ⟨_, rfl⟩
  rw [← hr]
  have HR := hid hr
  clear hr
  obtain ⟨ao, acap, rfl, hac, hax⟩ := ha
  obtain ⟨bo, bcap, rfl, hbc, hbx⟩ := hb
  by_cases hlen : xs.length = ys.length
  · have hlen' : ((xs.length : Int) == (ys.length : Int)) = true := by simp [hlen]
    have Hl := hid hlen
    have HA := hid hax
    have HB := hid hbx
    have hbl : ys.length ≤ 1000000000 := by omega
    have hab : (xs.length : Int) ≤ (ys.length : Int) := by omega
    have hba : (ys.length : Int) ≤ (xs.length : Int) := by omega
    clear hlen hax hbx hlen'
    go_enter Try.func30, Try.ntmps30
    go_wp2
    go_loopw [5] (fun i wr => ∃ (k : Nat), k ≤ xs.length ∧ i = .int .i64 k ∧ DN w wr ∧ Hid (xs.take k = ys.take k)) (fun i _ => xs.length - (intOf i).toNat)
    case atStart => exact ⟨0, Nat.zero_le _, rfl, DN.refl w, hid (by simp)⟩
    case round =>
      obtain ⟨k, hk, rfl, hdn, hpre⟩ := hrel
      by_cases hlt : k < xs.length
      · obtain ⟨ab, aoff, rfl, haj⟩ := HA.out (by intro e; subst e; simp at hlt)
        obtain ⟨bb, boff, rfl, hbj⟩ := HB.out (fun e => by rw [e, List.length_nil] at hab; omega)
        have hlt2 : k < ys.length := by omega
        have ca := (hdn.cell _).trans (haj k xs[k] (by simp [hlt]))
        have cb := (hdn.cell _).trans (hbj k ys[k] (by simp [hlt2]))
        have hst := take_eq_step xs ys k hlt hlt2 hpre.out
        obtain ⟨x, hx⟩ : ∃ x, x = xs[k] := ⟨_, rfl⟩
        obtain ⟨y, hy⟩ : ∃ y, y = ys[k] := ⟨_, rfl⟩
        rw [← hx] at ca hst
        rw [← hy] at cb hst
        have hne2 : x ≠ y → xs ≠ ys := by
          intro h e
          apply h
          rw [hx, hy]
          subst e
          rfl
        have HS : x = y → Hid (xs.take (k + 1) = ys.take (k + 1)) := fun h => hid (hst.2 h)
        have HN := hid hne2
        have i1 : (0 : Int) ≤ (k : Int) := by omega
        have i2 : (k : Int) < (xs.length : Int) := by omega
        have i3 : (k : Int) < (ys.length : Int) := by omega
        clear hx hy hst hne2 haj hbj
        by_cases hxy : x = y
        · have HT := HS hxy
          subst hxy
          clear HS
          go_wp2
          go_quiet (fail)
          go_wp2
          go_roundw
          case rel => first | exact ⟨k + 1, by omega, by go_num, hdn.more _, HT⟩ | ((repeat apply Exists.intro); exact ⟨⟨k + 1, by omega, by go_num, hdn.more _, HT⟩, rfl⟩)
          case measure => simp [intOf]; omega
        · have hxy2 : (x == y) = false := by simpa using hxy
          clear HS
          have Hr := hid (show decide (xs = ys) = false by simpa using HN.out hxy)
          go_wp2
          go_quiet (fail)
          go_wp2
          go_ret
          exact ⟨hdn.more _, by rw [HR.out, Hr.out]; rfl⟩
      · have Hr : Hid (decide (xs = ys) = true) := by
          have := hpre.out
          rw [List.take_of_length_le (by omega), List.take_of_length_le (by omega)] at this
          exact hid (by simpa using this)
        go_wp2
        go_ret
        exact ⟨hdn, by rw [HR.out, Hr.out]; rfl⟩
  · have Hr : Hid (decide (xs = ys) = false) := hid (by
      simp
      intro e; subst e; exact hlen rfl)
    have hne : ((xs.length : Int) == (ys.length : Int)) = false := by simp; omega
    clear hlen hax hbx
    go_enter Try.func30, Try.ntmps30
    go_wp2
    go_ret
    exact ⟨DN.refl _, by rw [HR.out, Hr.out]; rfl⟩

end Go.Proofs.Ytiammlngbejhkaa
