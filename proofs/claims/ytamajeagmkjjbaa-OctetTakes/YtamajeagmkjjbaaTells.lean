import Derived.Test.YtamajeagmkjjbaaTk
import Derived.Test.YtamajeagmkjjbaaRR1
import Derived.Test.YtamajeagmkjjbaaB1
namespace Go.Proofs.Ytamajeagmkjjbaa
open Go.RowKit

theorem dnBelow {w w' : World} (hd : ∃ nq, w' = w.drewN nq) (B : Nat) : Below B w w' := by
  obtain ⟨n, rfl⟩ := hd
  exact ⟨rfl, rfl, rfl, Nat.le_refl _, fun _ _ => rfl⟩

set_option maxRecDepth 100000 in
set_option maxHeartbeats 1600000 in
theorem tells_any (p : Nat) (g : Option Nat) (bs : List Int) (at' : Nat) (e st : Int) (ao : Option Addr) (c : Nat) (w : World) (h : Rd w p g bs at' e) (hst : e ≠ 0 → st = at') :
    Calls Try.prog 18 #[.pointer (some ⟨p, 0, none⟩), .agg #[.slice ao bs.length c, .int .i64 at', .int .i64 e, .int .i64 st]] w fun x w' => x = .returned (.bool true) ∧ Below w.heap.size w w' := by
  have hat : at' ≤ bs.length ∧ bs.length ≤ 1000000000 := by obtain ⟨_, _, _, _, _, _, h1, h2⟩ := h; exact ⟨h1, h2⟩
  obtain ⟨hat1, hat2⟩ := hat
  have H := hid (fun wx (hb : Below w.heap.size w wx) => rd_below h hb)
  clear h
  obtain ⟨W, hW⟩ : ∃ W, W = w.alloc (.cells #[.slice ao bs.length c, .int .i64 at', .int .i64 e, .int .i64 st] 44) := ⟨_, rfl⟩
  have hb0 : Below w.heap.size w W := by rw [hW]; exact (Below.refl _ _).alloc (Nat.le_refl _) _
  have hq0 : W.heap[w.heap.size]? = some (.cells #[.slice ao bs.length c, .int .i64 at', .int .i64 e, .int .i64 st] 44 (0, 0)) := by rw [hW]; exact heap_alloc_new w _
  have hz0 : w.heap.size < W.heap.size := (Array.getElem?_eq_some_iff.1 hq0).1
  have HW := hid hW
  have HQ := hid hq0
  clear hW hq0
  by_cases he : e = 0
  · subst he
    go_enter Try.func18, Try.ntmps18
    go_wp2_with fail
    rw [← HW.out]
    refine (rerr_any p g bs at' 0 W (H.out W hb0)).mono ?_
    rintro x w1 ⟨hd1, rfl⟩
    have hb1 := dnBelow hd1 (W.heap.size)
    have hz1 := hb1.size
    have hbw1 := hb0.trans (hb1.mono (by omega))
    have hq1 := (hb1.block w.heap.size hz0).trans HQ.out
    obtain ⟨c0, c1, c2, c3⟩ := cell_of_four hq1
    rw [if_pos rfl]
    clear hd1 hq1
    go_wp2_with fail
    go_region_held3 (fun wx => wx.cell? ⟨w.heap.size, 0, none⟩ = some (.slice ao bs.length c) ∧ wx.cell? ⟨w.heap.size, 1, none⟩ = some (.int .i64 at') ∧ wx.cell? ⟨w.heap.size, 2, none⟩ = some (.int .i64 0) ∧ wx.cell? ⟨w.heap.size, 3, none⟩ = some (.int .i64 st))
      (first | (go_keep; done) | (rw [k0, k1, k2, k3]; exact ⟨c0, c1, c2, c3⟩) | (rw [m0, m1, m2, m3, k0, k1, k2, k3]; exact ⟨c0, c1, c2, c3⟩) | (rw [l0, l1, l2, l3, m0, m1, m2, m3, k0, k1, k2, k3]; exact ⟨c0, c1, c2, c3⟩) | (rw [n0, n1, n2, n3, l0, l1, l2, l3, m0, m1, m2, m3, k0, k1, k2, k3]; exact ⟨c0, c1, c2, c3⟩))
      (first
        | (go_at_call 26; refine (left_any p g bs at' 0 _ (H.out _ hbw1.drew)).mono ?_; rintro y w2 ⟨hd2, rfl⟩; have hb2 := dnBelow hd2 (w.heap.size + 1); have k0 := hb2.cell (p := ⟨w.heap.size, 0, none⟩) (by dsimp only; omega); have k1 := hb2.cell (p := ⟨w.heap.size, 1, none⟩) (by dsimp only; omega); have k2 := hb2.cell (p := ⟨w.heap.size, 2, none⟩) (by dsimp only; omega); have k3 := hb2.cell (p := ⟨w.heap.size, 3, none⟩) (by dsimp only; omega); have hbw2 := hbw1.drew.trans (hb2.mono (by omega)); have hz2 := hb2.size; clear hd2)
        | (go_at_call 43; refine (rleft_any ao bs.length c at' 0 st _ hat2 hat1).mono ?_; rintro y w3 ⟨rfl, hb3⟩; have hs3 : w.heap.size < w2.heap.size := (by simp at hz2; omega); have m0 := hb3.cell (p := ⟨w.heap.size, 0, none⟩) hs3; have m1 := hb3.cell (p := ⟨w.heap.size, 1, none⟩) hs3; have m2 := hb3.cell (p := ⟨w.heap.size, 2, none⟩) hs3; have m3 := hb3.cell (p := ⟨w.heap.size, 3, none⟩) hs3; have hbw3 := hbw2.trans (hb3.mono (by omega)); have hz3 := hb3.size)
        | (go_at_call 21; refine (end_any p g bs at' 0 _ (H.out _ hbw3)).mono ?_; rintro y w4 ⟨hd4, rfl⟩; have hb4 := dnBelow hd4 (w.heap.size + 1); have l0 := hb4.cell (p := ⟨w.heap.size, 0, none⟩) (by dsimp only; omega); have l1 := hb4.cell (p := ⟨w.heap.size, 1, none⟩) (by dsimp only; omega); have l2 := hb4.cell (p := ⟨w.heap.size, 2, none⟩) (by dsimp only; omega); have l3 := hb4.cell (p := ⟨w.heap.size, 3, none⟩) (by dsimp only; omega); have hbw4 := hbw3.trans (hb4.mono (by omega)); clear hd4)
        | (go_at_call 44; refine (rend_any ao bs.length c at' 0 st _ hat2 hat1).mono ?_; rintro y w5 ⟨rfl, hb5⟩; have hs5 : w.heap.size < w4.heap.size := (by have := hb4.size; omega); have n0 := hb5.cell (p := ⟨w.heap.size, 0, none⟩) hs5; have n1 := hb5.cell (p := ⟨w.heap.size, 1, none⟩) hs5; have n2 := hb5.cell (p := ⟨w.heap.size, 2, none⟩) hs5; have n3 := hb5.cell (p := ⟨w.heap.size, 3, none⟩) hs5; have hbw5 := hbw4.trans (hb5.mono (by omega))))
    go_wp2
    go_ret
    exact ⟨rfl, hbw5⟩
  · have he2 : (e != 0) = true := by simpa using he
    have hst2 := hst he
    subst hst2
    go_enter Try.func18, Try.ntmps18
    go_wp2_with fail
    rw [← HW.out]
    refine (rerr_any p g bs at' e W (H.out W hb0)).mono ?_
    rintro x w1 ⟨hd1, rfl⟩
    have hb1 := dnBelow hd1 (W.heap.size)
    have hz1 := hb1.size
    have hbw1 := hb0.trans (hb1.mono (by omega))
    have hq1 := (hb1.block w.heap.size hz0).trans HQ.out
    obtain ⟨c0, c1, c2, c3⟩ := cell_of_four hq1
    rw [if_neg he]
    clear hd1 hq1
    go_wp2_with fail
    go_region_held3 (fun wx => wx.cell? ⟨w.heap.size, 0, none⟩ = some (.slice ao bs.length c) ∧ wx.cell? ⟨w.heap.size, 1, none⟩ = some (.int .i64 at') ∧ wx.cell? ⟨w.heap.size, 2, none⟩ = some (.int .i64 e) ∧ wx.cell? ⟨w.heap.size, 3, none⟩ = some (.int .i64 at'))
      (first | (go_keep; done) | (rw [k0, k1, k2, k3]; exact ⟨c0, c1, c2, c3⟩) | (rw [m0, m1, m2, m3, k0, k1, k2, k3]; exact ⟨c0, c1, c2, c3⟩) | (rw [l0, l1, l2, l3, m0, m1, m2, m3, k0, k1, k2, k3]; exact ⟨c0, c1, c2, c3⟩) | (rw [n0, n1, n2, n3, l0, l1, l2, l3, m0, m1, m2, m3, k0, k1, k2, k3]; exact ⟨c0, c1, c2, c3⟩))
      (first
        | (go_at_call 26; refine (left_any p g bs at' e _ (H.out _ hbw1.drew)).mono ?_; rintro y w2 ⟨hd2, rfl⟩; have hb2 := dnBelow hd2 (w.heap.size + 1); have k0 := hb2.cell (p := ⟨w.heap.size, 0, none⟩) (by dsimp only; omega); have k1 := hb2.cell (p := ⟨w.heap.size, 1, none⟩) (by dsimp only; omega); have k2 := hb2.cell (p := ⟨w.heap.size, 2, none⟩) (by dsimp only; omega); have k3 := hb2.cell (p := ⟨w.heap.size, 3, none⟩) (by dsimp only; omega); have hbw2 := hbw1.drew.trans (hb2.mono (by omega)); have hz2 := hb2.size; clear hd2)
        | (go_at_call 43; refine (rleft_any ao bs.length c at' e at' _ hat2 hat1).mono ?_; rintro y w3 ⟨rfl, hb3⟩; have hs3 : w.heap.size < w2.heap.size := (by simp at hz2; omega); have m0 := hb3.cell (p := ⟨w.heap.size, 0, none⟩) hs3; have m1 := hb3.cell (p := ⟨w.heap.size, 1, none⟩) hs3; have m2 := hb3.cell (p := ⟨w.heap.size, 2, none⟩) hs3; have m3 := hb3.cell (p := ⟨w.heap.size, 3, none⟩) hs3; have hbw3 := hbw2.trans (hb3.mono (by omega)); have hz3 := hb3.size)
        | (go_at_call 21; refine (end_any p g bs at' e _ (H.out _ hbw3)).mono ?_; rintro y w4 ⟨hd4, rfl⟩; have hb4 := dnBelow hd4 (w.heap.size + 1); have l0 := hb4.cell (p := ⟨w.heap.size, 0, none⟩) (by dsimp only; omega); have l1 := hb4.cell (p := ⟨w.heap.size, 1, none⟩) (by dsimp only; omega); have l2 := hb4.cell (p := ⟨w.heap.size, 2, none⟩) (by dsimp only; omega); have l3 := hb4.cell (p := ⟨w.heap.size, 3, none⟩) (by dsimp only; omega); have hbw4 := hbw3.trans (hb4.mono (by omega)); clear hd4)
        | (go_at_call 44; refine (rend_any ao bs.length c at' e at' _ hat2 hat1).mono ?_; rintro y w5 ⟨rfl, hb5⟩; have hs5 : w.heap.size < w4.heap.size := (by have := hb4.size; omega); have n0 := hb5.cell (p := ⟨w.heap.size, 0, none⟩) hs5; have n1 := hb5.cell (p := ⟨w.heap.size, 1, none⟩) hs5; have n2 := hb5.cell (p := ⟨w.heap.size, 2, none⟩) hs5; have n3 := hb5.cell (p := ⟨w.heap.size, 3, none⟩) hs5; have hbw5 := hbw4.trans (hb5.mono (by omega))))
    go_wp2
    go_ret
    exact ⟨rfl, hbw5⟩

end Go.Proofs.Ytamajeagmkjjbaa
