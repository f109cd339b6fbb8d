import Derived.Test.YtamajeagmkjjbaaTaken
import Derived.Test.YtamajeagmkjjbaaRR6
namespace Go.Proofs.Ytamajeagmkjjbaa
open Go.RowKit

set_option maxRecDepth 100000 in
set_option maxHeartbeats 4000000 in
theorem taken5 (v : Value) (bs : List Int) (at' : Nat) (e st : Int) (n u i : Int) (s : ByteArray) (w : World) (h : Sl w v bs) (ho : Oct bs) (hl : bs.length ≤ 1000000000) (ha : at' ≤ bs.length) (hst : e ≠ 0 → st = at') (hn0 : -9223372036854775808 ≤ n) (hn1 : n < 9223372036854775808) :
    Calls Try.prog 20 #[.agg #[v, .int .i64 at', .int .i64 e, .int .i64 st], .agg #[.int .i64 5, .int .i64 n, .int .u64 u, .int .i64 i, .string s]] w fun x w' => TNPost w v ((0, 0, (takeZ 3 n bs at' e).1.2), (takeZ 3 n bs at' e).2) x w' := by
  have hbd := takeZ_bd 3 n bs at' e ho
  have HC := hid (fun wx (hb : Below w.heap.size w wx) => rtakeText_any v bs at' e st n wx (h.below hb) ho hl ha hst hn0 hn1)
  obtain ⟨ao, c, rfl, hcc⟩ := h
  obtain ⟨z, hz⟩ : ∃ z, z = takeZ 3 n bs at' e := ⟨_, rfl⟩
  rw [← hz] at hbd HC
  rw [← hz]
  clear hbd hz hst hcc
  obtain ⟨⟨zu, zs⟩, za, ze⟩ := z
  go_enter Try.func20, Try.ntmps20
  go_wp2_with fail
  refine (HC.out _ (below5 w _ _ _ _ _)).mono ?_
  rintro x w1 ⟨st2, rfl, hst2, hb1'⟩
  dsimp only at hst2
  dsimp only
  have hz1 : w.heap.size + 5 ≤ w1.heap.size := by
    have := hb1'.size
    simp at this
    omega
  obtain ⟨n1, n2, n3, n4⟩ := new5 w (.cells #[.slice ao bs.length c, .int .i64 at', .int .i64 e, .int .i64 st] 44) (.cells #[.int .i64 5, .int .i64 n, .int .u64 u, .int .i64 i, .string s] 35) (.cells #[.int .u64 0, .int .i64 0, .string ⟨#[]⟩] 48) (.cells #[.slice none 0 0, .int .i64 0, .int .i64 0, .int .i64 0] 44) (.cells #[.int .u64 0, .int .i64 0, .string ⟨#[]⟩] 48)
  have hq1 := (hb1'.block w.heap.size (by simp; omega)).trans n1
  have hq2 := (hb1'.block (w.heap.size + 2) (by simp)).trans n2
  have hq3 := (hb1'.block (w.heap.size + 3) (by simp)).trans n3
  have hq4 := (hb1'.block (w.heap.size + 4) (by simp)).trans n4
  obtain ⟨r0, r1, r2, r3⟩ := cell_of_four hq1
  obtain ⟨p0, p1, p2⟩ := cell_of_three hq2
  obtain ⟨q0, q1, q2, q3⟩ := cell_of_four hq3
  obtain ⟨g0, g1, g2⟩ := cell_of_three hq4
  have x0 := free_of_block (o := 0) hq1
  have x1 := free_of_block (o := 1) hq1
  have x2 := free_of_block (o := 2) hq1
  have x3 := free_of_block (o := 3) hq1
  have y0 := free_of_block (o := 0) hq2
  have y1 := free_of_block (o := 1) hq2
  have y2 := free_of_block (o := 2) hq2
  have z0 := free_of_block (o := 0) hq3
  have z1 := free_of_block (o := 1) hq3
  have z2 := free_of_block (o := 2) hq3
  have z3 := free_of_block (o := 3) hq3
  have f0 := free_of_block (o := 0) hq4
  have f1 := free_of_block (o := 1) hq4
  have f2 := free_of_block (o := 2) hq4
  have hbw := (below5 w _ _ _ _ _).trans (hb1'.mono (by simp; omega))
  have hs2 : w.heap.size + 2 < w1.heap.size := by omega
  have hs3 : w.heap.size + 3 < w1.heap.size := by omega
  have HS := hid hst2
  clear hq1 hq2 hq3 hq4 n1 n2 n3 n4 HC hb1' hst2
  go_wp2
  go_region
  all_goals go_wp2
  all_goals
    refine bodyPost_ret (v := .tuple #[.agg #[.int .u64 (0), .int .i64 (0), .string (mkStr zs)], .agg #[.slice ao bs.length c, .int .i64 (za : Int), .int .i64 ze, .int .i64 st2]]) (by simp [results, Try.results20, go_sem, p0, p1, p2, q0, q1, q2, q3]) rfl ?_
    refine ⟨st2, rfl, HS.out, ?_⟩
    repeat (first | (with_reducible exact hbw) | (with_reducible refine Below.drew ?_) | (with_reducible refine Below.setCell ?_ (by dsimp only; omega) _) | (with_reducible refine Below.alloc ?_ (by simp; omega) _))

end Go.Proofs.Ytamajeagmkjjbaa
