import Derived.Test.YthcoigbkdbkojaaGreatK09
import Derived.Test.YthcoigbkdbkojaaGreatK10
namespace Go.Proofs.YthcoigbkdbkojaaGreat
open Go.RowKit
open V (hp_new hp_lt hp_below hp_alloc)

section
variable {w w' : World} {B mb M : Nat} {s : Ms} {td : List Vd} {lk : List (ByteArray × ByteArray)} {kv : List (ByteArray × Value)}

set_option maxRecDepth 100000 in
set_option maxHeartbeats 1600000 in
theorem reck_sub_ok (x : Ins) (p q : Int) (h : MX w B mb s td lk M kv) (a0 : 0 ≤ x.a) (a1 : x.a < 16) (b0 : 0 ≤ x.b) (b1 : x.b < 16) (c0 : 0 ≤ x.c) (c1 : x.c < 16) (hp : s.rg x.b = ⟨1, p, emp⟩) (hq : s.rg x.c = ⟨1, q, emp⟩) (h1 : inR p = true) (h2 : inR q = true) (h3 : inR (p - q) = true) :
    Calls Tryz.prog 124 #[.pointer (some ⟨mb, 0, none⟩), x.val, .func (.func 126) #[] #[]] w (Did B w mb s (s.set x.a ⟨1, p - q, emp⟩) td lk M kv) := by
  obtain ⟨op, a, b, c, n, vk, vi, vt⟩ := x
  dsimp only at a0 a1 b0 b1 c0 c1 hp hq ⊢
  obtain ⟨a, rfl⟩ := Int.eq_ofNat_of_zero_le a0
  obtain ⟨b, rfl⟩ := Int.eq_ofNat_of_zero_le b0
  obtain ⟨c, rfl⟩ := Int.eq_ofNat_of_zero_le c0
  have ha2 : a < 16 := by omega
  have hml := h.m.lt
  obtain ⟨s0, s1, s2⟩ := h.m.reg a a0 a1
  obtain ⟨r0, r1, r2⟩ := h.m.reg b b0 b1
  obtain ⟨q0, q1, q2⟩ := h.m.reg c c0 c1
  rw [Int.toNat_natCast] at r0 r1 r2 q0 q1 q2 s0 s1 s2
  rw [hp] at r0 r1 r2
  rw [hq] at q0 q1 q2
  have hb0 : Below w.heap.size w (w.alloc (io op a b c n vk vi vt)) := below1 w _
  have HD := hid (show ∀ W, Calls Tryz.prog 126 #[vl 1 p emp, vl 1 q emp] W fun e w' => e = .returned (.tuple #[vl 1 (p - q) emp, .int .i64 0]) ∧ Below W.heap.size W w' from fun W => by
    have h4 := sub_any 1 p emp 1 q emp h1 h2 W
    have e : rckT (isI 1 emp) (isI 1 emp) (p - q) = .tuple #[vl 1 (p - q) emp, .int .i64 0] := by
      unfold rckT isI rckV
      simp [h3]
    rw [e] at h4
    exact h4)
  obtain ⟨-, y1, y2, y3, -⟩ := cells8 (hp_new w (io op a b c n vk vi vt))
  have t0 := (hb0.cell (p := ⟨mb, 3 + b * 3, none⟩) hml).trans r0
  have t1 := (hb0.cell (p := ⟨mb, 3 + b * 3 + 1, none⟩) hml).trans r1
  have t2 := (hb0.cell (p := ⟨mb, 3 + b * 3 + 2, none⟩) hml).trans r2
  have u0 := (hb0.cell (p := ⟨mb, 3 + c * 3, none⟩) hml).trans q0
  have u1 := (hb0.cell (p := ⟨mb, 3 + c * 3 + 1, none⟩) hml).trans q1
  have u2 := (hb0.cell (p := ⟨mb, 3 + c * 3 + 2, none⟩) hml).trans q2
  have HX := hid (And.intro h hb0)
  clear h hp hq h3 r0 r1 r2 q0 q1 q2 s0 s1 s2
  have HS := hid (show ∀ W, Below (w.alloc (io op a b c n vk vi vt)).heap.size (w.alloc (io op a b c n vk vi vt)) W → W.cell? ⟨w.heap.size, 1, none⟩ = some (.int .i64 a) ∧ W.cell? ⟨w.heap.size, 2, none⟩ = some (.int .i64 b) ∧ W.cell? ⟨w.heap.size, 3, none⟩ = some (.int .i64 c) ∧ W.cell? ⟨mb, 3 + b * 3, none⟩ = some (.int .i64 1) ∧ W.cell? ⟨mb, 3 + b * 3 + 1, none⟩ = some (.int .i64 p) ∧ W.cell? ⟨mb, 3 + b * 3 + 2, none⟩ = some (.string emp) ∧ W.cell? ⟨mb, 3 + c * 3, none⟩ = some (.int .i64 1) ∧ W.cell? ⟨mb, 3 + c * 3 + 1, none⟩ = some (.int .i64 q) ∧ W.cell? ⟨mb, 3 + c * 3 + 2, none⟩ = some (.string emp) from fun W hb =>
    ⟨(hb.cell (World.block_lt_of_cell? _ _ y1)).trans y1, (hb.cell (World.block_lt_of_cell? _ _ y2)).trans y2, (hb.cell (World.block_lt_of_cell? _ _ y3)).trans y3, (hb.cell (World.block_lt_of_cell? _ _ t0)).trans t0, (hb.cell (World.block_lt_of_cell? _ _ t1)).trans t1, (hb.cell (World.block_lt_of_cell? _ _ t2)).trans t2, (hb.cell (World.block_lt_of_cell? _ _ u0)).trans u0, (hb.cell (World.block_lt_of_cell? _ _ u1)).trans u1, (hb.cell (World.block_lt_of_cell? _ _ u2)).trans u2⟩)
  clear t0 t1 t2 u0 u1 u2 y1 y2 y3 hb0
  unfold Ins.val
  go_enter Tryz.func124, Tryz.ntmps124
  go_wp2_with fail
  go_region_held3 (fun wx => wx.cell? ⟨w.heap.size, 2, none⟩ = some (.int .i64 b) ∧ wx.cell? ⟨w.heap.size, 3, none⟩ = some (.int .i64 c) ∧ wx.cell? ⟨mb, 3 + b * 3, none⟩ = some (.int .i64 1) ∧ wx.cell? ⟨mb, 3 + b * 3 + 1, none⟩ = some (.int .i64 p) ∧ wx.cell? ⟨mb, 3 + b * 3 + 2, none⟩ = some (.string emp) ∧ wx.cell? ⟨mb, 3 + c * 3, none⟩ = some (.int .i64 1) ∧ wx.cell? ⟨mb, 3 + c * 3 + 1, none⟩ = some (.int .i64 q) ∧ wx.cell? ⟨mb, 3 + c * 3 + 2, none⟩ = some (.string emp))
    (first | exact (HS.out _ HB2.out).2 | exact (HS.out _ (HB2.out.alloc HB2.out.size _)).2 | exact (HS.out _ ((Below.refl _ _).drew)).2 | exact (HS.out _ (((Below.refl _ _).alloc (Nat.le_refl _) _).drew)).2 | exact (HS.out _ HB4.out).2 | exact (HS.out _ (((HB4.out.setCell (p := ⟨w.heap.size + 1, 0, none⟩) (by simp) _).setCell (p := ⟨w.heap.size + 1, 1, none⟩) (by simp) _).setCell (p := ⟨w.heap.size + 1, 2, none⟩) (by simp) _)).2 | (go_keep; done))
    (first
    | (go_at_call 126
       refine (HD.out _).mono ?_
       rintro e w2 ⟨rfl, hb2⟩
       have HB2 := hid (show Below (w.alloc (io op a b c n vk vi vt)).heap.size (w.alloc (io op a b c n vk vi vt)) w2 from ⟨hb2.os, hb2.tape, hb2.output, hb2.size, hb2.block⟩)
       clear hb2)
    | (go_at_call 126
       refine (HD.out _).mono ?_
       rintro e w4 ⟨rfl, hb4⟩
       have HB5 := hid (show Below ((w.alloc (io op a b c n vk vi vt)).alloc (vo 0 0 emp)).heap.size ((w.alloc (io op a b c n vk vi vt)).alloc (vo 0 0 emp)) w4 from ⟨hb4.os, hb4.tape, hb4.output, hb4.size, hb4.block⟩)
       have HB4 := hid (below_on (below1 (w.alloc (io op a b c n vk vi vt)) (vo 0 0 emp)) HB5.out)
       have hv4 := (show w4.heap[w.heap.size + 1]? = some (vo 0 0 emp) from hp_below (show ((w.alloc (io op a b c n vk vi vt)).alloc (vo 0 0 emp)).heap[w.heap.size + 1]? = some (vo 0 0 emp) from by have := hp_new (w.alloc (io op a b c n vk vi vt)) (vo 0 0 emp); simpa using this) HB5.out (by simp))
       obtain ⟨v0, v1, v2⟩ := V.cells3 hv4
       have hz4 := (fun o => free_of_block (o := o) hv4)
       have HV4 := hid hv4
       clear hb4 hv4))
  · have hx2 := HX.out.1.below (below_on HX.out.2 HB2.out)
    have hz2 := hx2.m.lt
    obtain ⟨z1, -⟩ := HS.out _ HB2.out
    obtain ⟨s0, s1, s2⟩ := hx2.m.reg a a0 a1
    rw [Int.toNat_natCast] at s0 s1 s2
    have hfz := hx2.m.free
    have hz1 := World.block_lt_of_cell? _ _ z1
    dsimp only at hz1
    have H3 := hid (And.intro hx2 (below_on HX.out.2 HB2.out))
    clear hx2
    go_wp2_with (
      go_at_call 161
      refine (insist_ok _).mono ?_
      rintro e w' ⟨rfl, e1⟩
      rw [e1]
      clear e1 w')
    go_region
    all_goals
      go_end0
      obtain ⟨-, d2, d3⟩ := did_set H3.out.1 a ha2 ⟨1, p - q, emp⟩ (vo 1 (p - q) emp)
      exact ⟨rfl, d2, (bsx H3.out.2).trans d3 (fun _ _ e => e)⟩
  · have hbW := (((below_on HX.out.2 HB4.out).setCell (p := ⟨w.heap.size + 1, 0, none⟩) (Nat.le_succ _) (.int .i64 1)).setCell (p := ⟨w.heap.size + 1, 1, none⟩) (Nat.le_succ _) (.int .i64 (p - q))).setCell (p := ⟨w.heap.size + 1, 2, none⟩) (Nat.le_succ _) (.string emp)
    have hcW := (HS.out _ (((HB4.out.setCell (p := ⟨w.heap.size + 1, 0, none⟩) (by simp) (.int .i64 1)).setCell (p := ⟨w.heap.size + 1, 1, none⟩) (by simp) (.int .i64 (p - q))).setCell (p := ⟨w.heap.size + 1, 2, none⟩) (by simp) (.string emp))).1
    refine cutG (fun W => MX W B mb s td lk M kv ∧ W.heap[w.heap.size + 1]? = some (vo 1 (p - q) emp) ∧ W.cell? ⟨w.heap.size, 1, none⟩ = some (.int .i64 a) ∧ Below w.heap.size w W) ⟨HX.out.1.below hbW, V.set3 HV4.out _ _ _, hcW, hbW⟩ ?_
    clear hbW hcW v0 v1 v2 hz4
    rename_i hheld
    clear hheld
    rintro W ⟨hxW, hvW, z1, hbW⟩
    have hz2 := hxW.m.lt
    obtain ⟨s0, s1, s2⟩ := hxW.m.reg a a0 a1
    rw [Int.toNat_natCast] at s0 s1 s2
    have hfz := hxW.m.free
    obtain ⟨v0, v1, v2⟩ := V.cells3 hvW
    have H3 := hid (And.intro hxW hbW)
    clear hxW hvW hbW
    go_wp2_with (
      go_at_call 161
      refine (insist_ok _).mono ?_
      rintro e w' ⟨rfl, e1⟩
      rw [e1]
      clear e1 w')
    go_region
    all_goals
      go_end0
      obtain ⟨-, d2, d3⟩ := did_set0 H3.out.1 a ha2 ⟨1, p - q, emp⟩
      exact ⟨rfl, d2, (bsx H3.out.2).trans d3 (fun _ _ e => e)⟩

end

end Go.Proofs.YthcoigbkdbkojaaGreat

namespace Go.Proofs.YthcoigbkdbkojaaGreat
open Go.RowKit
open V (hp_new hp_lt hp_below hp_alloc)

section
variable {w w' : World} {B mb M : Nat} {s : Ms} {td : List Vd} {lk : List (ByteArray × ByteArray)} {kv : List (ByteArray × Value)}

set_option maxRecDepth 100000 in
set_option maxHeartbeats 1600000 in
theorem reck_add_no (x : Ins) (p q : Int) (h : MX w B mb s td lk M kv) (a0 : 0 ≤ x.a) (a1 : x.a < 16) (b0 : 0 ≤ x.b) (b1 : x.b < 16) (c0 : 0 ≤ x.c) (c1 : x.c < 16) (hp : s.rg x.b = ⟨1, p, emp⟩) (hq : s.rg x.c = ⟨1, q, emp⟩) (h1 : inR p = true) (h2 : inR q = true) (h3 : inR (p + q) = false) :
    Calls Tryz.prog 124 #[.pointer (some ⟨mb, 0, none⟩), x.val, .func (.func 125) #[] #[]] w (Gave B w mb s td lk M kv 3) := by
  obtain ⟨op, a, b, c, n, vk, vi, vt⟩ := x
  dsimp only at a0 a1 b0 b1 c0 c1 hp hq ⊢
  obtain ⟨a, rfl⟩ := Int.eq_ofNat_of_zero_le a0
  obtain ⟨b, rfl⟩ := Int.eq_ofNat_of_zero_le b0
  obtain ⟨c, rfl⟩ := Int.eq_ofNat_of_zero_le c0
  have ha2 : a < 16 := by omega
  have hml := h.m.lt
  obtain ⟨s0, s1, s2⟩ := h.m.reg a a0 a1
  obtain ⟨r0, r1, r2⟩ := h.m.reg b b0 b1
  obtain ⟨q0, q1, q2⟩ := h.m.reg c c0 c1
  rw [Int.toNat_natCast] at r0 r1 r2 q0 q1 q2 s0 s1 s2
  rw [hp] at r0 r1 r2
  rw [hq] at q0 q1 q2
  have hb0 : Below w.heap.size w (w.alloc (io op a b c n vk vi vt)) := below1 w _
  have HD := hid (show ∀ W, Calls Tryz.prog 125 #[vl 1 p emp, vl 1 q emp] W fun e w' => e = .returned (.tuple #[vl 0 0 emp, .int .i64 15]) ∧ Below W.heap.size W w' from fun W => by
    have h4 := add_any 1 p emp 1 q emp h1 h2 W
    have e : rckT (isI 1 emp) (isI 1 emp) (p + q) = .tuple #[vl 0 0 emp, .int .i64 15] := by
      unfold rckT isI rckV
      simp [h3]
    rw [e] at h4
    exact h4)
  obtain ⟨-, y1, y2, y3, -⟩ := cells8 (hp_new w (io op a b c n vk vi vt))
  have t0 := (hb0.cell (p := ⟨mb, 3 + b * 3, none⟩) hml).trans r0
  have t1 := (hb0.cell (p := ⟨mb, 3 + b * 3 + 1, none⟩) hml).trans r1
  have t2 := (hb0.cell (p := ⟨mb, 3 + b * 3 + 2, none⟩) hml).trans r2
  have u0 := (hb0.cell (p := ⟨mb, 3 + c * 3, none⟩) hml).trans q0
  have u1 := (hb0.cell (p := ⟨mb, 3 + c * 3 + 1, none⟩) hml).trans q1
  have u2 := (hb0.cell (p := ⟨mb, 3 + c * 3 + 2, none⟩) hml).trans q2
  have HX := hid (And.intro h hb0)
  clear h hp hq h3 r0 r1 r2 q0 q1 q2 s0 s1 s2
  have HS := hid (show ∀ W, Below (w.alloc (io op a b c n vk vi vt)).heap.size (w.alloc (io op a b c n vk vi vt)) W → W.cell? ⟨w.heap.size, 1, none⟩ = some (.int .i64 a) ∧ W.cell? ⟨w.heap.size, 2, none⟩ = some (.int .i64 b) ∧ W.cell? ⟨w.heap.size, 3, none⟩ = some (.int .i64 c) ∧ W.cell? ⟨mb, 3 + b * 3, none⟩ = some (.int .i64 1) ∧ W.cell? ⟨mb, 3 + b * 3 + 1, none⟩ = some (.int .i64 p) ∧ W.cell? ⟨mb, 3 + b * 3 + 2, none⟩ = some (.string emp) ∧ W.cell? ⟨mb, 3 + c * 3, none⟩ = some (.int .i64 1) ∧ W.cell? ⟨mb, 3 + c * 3 + 1, none⟩ = some (.int .i64 q) ∧ W.cell? ⟨mb, 3 + c * 3 + 2, none⟩ = some (.string emp) from fun W hb =>
    ⟨(hb.cell (World.block_lt_of_cell? _ _ y1)).trans y1, (hb.cell (World.block_lt_of_cell? _ _ y2)).trans y2, (hb.cell (World.block_lt_of_cell? _ _ y3)).trans y3, (hb.cell (World.block_lt_of_cell? _ _ t0)).trans t0, (hb.cell (World.block_lt_of_cell? _ _ t1)).trans t1, (hb.cell (World.block_lt_of_cell? _ _ t2)).trans t2, (hb.cell (World.block_lt_of_cell? _ _ u0)).trans u0, (hb.cell (World.block_lt_of_cell? _ _ u1)).trans u1, (hb.cell (World.block_lt_of_cell? _ _ u2)).trans u2⟩)
  clear t0 t1 t2 u0 u1 u2 y1 y2 y3 hb0
  unfold Ins.val
  go_enter Tryz.func124, Tryz.ntmps124
  go_wp2_with fail
  go_region_held3 (fun wx => wx.cell? ⟨w.heap.size, 2, none⟩ = some (.int .i64 b) ∧ wx.cell? ⟨w.heap.size, 3, none⟩ = some (.int .i64 c) ∧ wx.cell? ⟨mb, 3 + b * 3, none⟩ = some (.int .i64 1) ∧ wx.cell? ⟨mb, 3 + b * 3 + 1, none⟩ = some (.int .i64 p) ∧ wx.cell? ⟨mb, 3 + b * 3 + 2, none⟩ = some (.string emp) ∧ wx.cell? ⟨mb, 3 + c * 3, none⟩ = some (.int .i64 1) ∧ wx.cell? ⟨mb, 3 + c * 3 + 1, none⟩ = some (.int .i64 q) ∧ wx.cell? ⟨mb, 3 + c * 3 + 2, none⟩ = some (.string emp))
    (first | exact (HS.out _ HB2.out).2 | exact (HS.out _ (HB2.out.alloc HB2.out.size _)).2 | exact (HS.out _ ((Below.refl _ _).drew)).2 | exact (HS.out _ (((Below.refl _ _).alloc (Nat.le_refl _) _).drew)).2 | exact (HS.out _ HB4.out).2 | exact (HS.out _ (((HB4.out.setCell (p := ⟨w.heap.size + 1, 0, none⟩) (by simp) _).setCell (p := ⟨w.heap.size + 1, 1, none⟩) (by simp) _).setCell (p := ⟨w.heap.size + 1, 2, none⟩) (by simp) _)).2 | (go_keep; done))
    (first
    | (go_at_call 125
       refine (HD.out _).mono ?_
       rintro e w2 ⟨rfl, hb2⟩
       have HB2 := hid (show Below (w.alloc (io op a b c n vk vi vt)).heap.size (w.alloc (io op a b c n vk vi vt)) w2 from ⟨hb2.os, hb2.tape, hb2.output, hb2.size, hb2.block⟩)
       clear hb2)
    | (go_at_call 125
       refine (HD.out _).mono ?_
       rintro e w4 ⟨rfl, hb4⟩
       have HB5 := hid (show Below ((w.alloc (io op a b c n vk vi vt)).alloc (vo 0 0 emp)).heap.size ((w.alloc (io op a b c n vk vi vt)).alloc (vo 0 0 emp)) w4 from ⟨hb4.os, hb4.tape, hb4.output, hb4.size, hb4.block⟩)
       have HB4 := hid (below_on (below1 (w.alloc (io op a b c n vk vi vt)) (vo 0 0 emp)) HB5.out)
       have hv4 := (show w4.heap[w.heap.size + 1]? = some (vo 0 0 emp) from hp_below (show ((w.alloc (io op a b c n vk vi vt)).alloc (vo 0 0 emp)).heap[w.heap.size + 1]? = some (vo 0 0 emp) from by have := hp_new (w.alloc (io op a b c n vk vi vt)) (vo 0 0 emp); simpa using this) HB5.out (by simp))
       obtain ⟨v0, v1, v2⟩ := V.cells3 hv4
       have hz4 := (fun o => free_of_block (o := o) hv4)
       have HV4 := hid hv4
       clear hb4 hv4))
  · have hx2 := HX.out.1.below (below_on HX.out.2 HB2.out)
    have hz2 := hx2.m.lt
    obtain ⟨z1, -⟩ := HS.out _ HB2.out
    obtain ⟨s0, s1, s2⟩ := hx2.m.reg a a0 a1
    rw [Int.toNat_natCast] at s0 s1 s2
    have hfz := hx2.m.free
    have hz1 := World.block_lt_of_cell? _ _ z1
    dsimp only at hz1
    have H3 := hid (And.intro hx2 (below_on HX.out.2 HB2.out))
    clear hx2
    go_wp2_with (
      go_at_call 161
      refine (insist_range _).mono ?_
      rintro e w' ⟨rfl, e1⟩
      rw [e1]
      clear e1 w')
    exact ⟨rfl, rfl, H3.out.1.below (below1 _ _), (bsx H3.out.2).alloc _⟩
  · have hbW := (((below_on HX.out.2 HB4.out).setCell (p := ⟨w.heap.size + 1, 0, none⟩) (Nat.le_succ _) (.int .i64 0)).setCell (p := ⟨w.heap.size + 1, 1, none⟩) (Nat.le_succ _) (.int .i64 0)).setCell (p := ⟨w.heap.size + 1, 2, none⟩) (Nat.le_succ _) (.string emp)
    have hcW := (HS.out _ (((HB4.out.setCell (p := ⟨w.heap.size + 1, 0, none⟩) (by simp) (.int .i64 0)).setCell (p := ⟨w.heap.size + 1, 1, none⟩) (by simp) (.int .i64 0)).setCell (p := ⟨w.heap.size + 1, 2, none⟩) (by simp) (.string emp))).1
    refine cutG (fun W => MX W B mb s td lk M kv ∧ W.heap[w.heap.size + 1]? = some (vo 0 0 emp) ∧ W.cell? ⟨w.heap.size, 1, none⟩ = some (.int .i64 a) ∧ Below w.heap.size w W) ⟨HX.out.1.below hbW, V.set3 HV4.out _ _ _, hcW, hbW⟩ ?_
    clear hbW hcW v0 v1 v2 hz4
    rename_i hheld
    clear hheld
    rintro W ⟨hxW, hvW, z1, hbW⟩
    have hz2 := hxW.m.lt
    obtain ⟨s0, s1, s2⟩ := hxW.m.reg a a0 a1
    rw [Int.toNat_natCast] at s0 s1 s2
    have hfz := hxW.m.free
    obtain ⟨v0, v1, v2⟩ := V.cells3 hvW
    have H3 := hid (And.intro hxW hbW)
    clear hxW hvW hbW
    go_wp2_with (
      go_at_call 161
      refine (insist_range _).mono ?_
      rintro e w' ⟨rfl, e1⟩
      rw [e1]
      clear e1 w')
    exact ⟨rfl, rfl, H3.out.1, bsx H3.out.2⟩


set_option maxRecDepth 100000 in
set_option maxHeartbeats 1600000 in
theorem reck_sub_no (x : Ins) (p q : Int) (h : MX w B mb s td lk M kv) (a0 : 0 ≤ x.a) (a1 : x.a < 16) (b0 : 0 ≤ x.b) (b1 : x.b < 16) (c0 : 0 ≤ x.c) (c1 : x.c < 16) (hp : s.rg x.b = ⟨1, p, emp⟩) (hq : s.rg x.c = ⟨1, q, emp⟩) (h1 : inR p = true) (h2 : inR q = true) (h3 : inR (p - q) = false) :
    Calls Tryz.prog 124 #[.pointer (some ⟨mb, 0, none⟩), x.val, .func (.func 126) #[] #[]] w (Gave B w mb s td lk M kv 3) := by
  obtain ⟨op, a, b, c, n, vk, vi, vt⟩ := x
  dsimp only at a0 a1 b0 b1 c0 c1 hp hq ⊢
  obtain ⟨a, rfl⟩ := Int.eq_ofNat_of_zero_le a0
  obtain ⟨b, rfl⟩ := Int.eq_ofNat_of_zero_le b0
  obtain ⟨c, rfl⟩ := Int.eq_ofNat_of_zero_le c0
  have ha2 : a < 16 := by omega
  have hml := h.m.lt
  obtain ⟨s0, s1, s2⟩ := h.m.reg a a0 a1
  obtain ⟨r0, r1, r2⟩ := h.m.reg b b0 b1
  obtain ⟨q0, q1, q2⟩ := h.m.reg c c0 c1
  rw [Int.toNat_natCast] at r0 r1 r2 q0 q1 q2 s0 s1 s2
  rw [hp] at r0 r1 r2
  rw [hq] at q0 q1 q2
  have hb0 : Below w.heap.size w (w.alloc (io op a b c n vk vi vt)) := below1 w _
  have HD := hid (show ∀ W, Calls Tryz.prog 126 #[vl 1 p emp, vl 1 q emp] W fun e w' => e = .returned (.tuple #[vl 0 0 emp, .int .i64 15]) ∧ Below W.heap.size W w' from fun W => by
    have h4 := sub_any 1 p emp 1 q emp h1 h2 W
    have e : rckT (isI 1 emp) (isI 1 emp) (p - q) = .tuple #[vl 0 0 emp, .int .i64 15] := by
      unfold rckT isI rckV
      simp [h3]
    rw [e] at h4
    exact h4)
  obtain ⟨-, y1, y2, y3, -⟩ := cells8 (hp_new w (io op a b c n vk vi vt))
  have t0 := (hb0.cell (p := ⟨mb, 3 + b * 3, none⟩) hml).trans r0
  have t1 := (hb0.cell (p := ⟨mb, 3 + b * 3 + 1, none⟩) hml).trans r1
  have t2 := (hb0.cell (p := ⟨mb, 3 + b * 3 + 2, none⟩) hml).trans r2
  have u0 := (hb0.cell (p := ⟨mb, 3 + c * 3, none⟩) hml).trans q0
  have u1 := (hb0.cell (p := ⟨mb, 3 + c * 3 + 1, none⟩) hml).trans q1
  have u2 := (hb0.cell (p := ⟨mb, 3 + c * 3 + 2, none⟩) hml).trans q2
  have HX := hid (And.intro h hb0)
  clear h hp hq h3 r0 r1 r2 q0 q1 q2 s0 s1 s2
  have HS := hid (show ∀ W, Below (w.alloc (io op a b c n vk vi vt)).heap.size (w.alloc (io op a b c n vk vi vt)) W → W.cell? ⟨w.heap.size, 1, none⟩ = some (.int .i64 a) ∧ W.cell? ⟨w.heap.size, 2, none⟩ = some (.int .i64 b) ∧ W.cell? ⟨w.heap.size, 3, none⟩ = some (.int .i64 c) ∧ W.cell? ⟨mb, 3 + b * 3, none⟩ = some (.int .i64 1) ∧ W.cell? ⟨mb, 3 + b * 3 + 1, none⟩ = some (.int .i64 p) ∧ W.cell? ⟨mb, 3 + b * 3 + 2, none⟩ = some (.string emp) ∧ W.cell? ⟨mb, 3 + c * 3, none⟩ = some (.int .i64 1) ∧ W.cell? ⟨mb, 3 + c * 3 + 1, none⟩ = some (.int .i64 q) ∧ W.cell? ⟨mb, 3 + c * 3 + 2, none⟩ = some (.string emp) from fun W hb =>
    ⟨(hb.cell (World.block_lt_of_cell? _ _ y1)).trans y1, (hb.cell (World.block_lt_of_cell? _ _ y2)).trans y2, (hb.cell (World.block_lt_of_cell? _ _ y3)).trans y3, (hb.cell (World.block_lt_of_cell? _ _ t0)).trans t0, (hb.cell (World.block_lt_of_cell? _ _ t1)).trans t1, (hb.cell (World.block_lt_of_cell? _ _ t2)).trans t2, (hb.cell (World.block_lt_of_cell? _ _ u0)).trans u0, (hb.cell (World.block_lt_of_cell? _ _ u1)).trans u1, (hb.cell (World.block_lt_of_cell? _ _ u2)).trans u2⟩)
  clear t0 t1 t2 u0 u1 u2 y1 y2 y3 hb0
  unfold Ins.val
  go_enter Tryz.func124, Tryz.ntmps124
  go_wp2_with fail
  go_region_held3 (fun wx => wx.cell? ⟨w.heap.size, 2, none⟩ = some (.int .i64 b) ∧ wx.cell? ⟨w.heap.size, 3, none⟩ = some (.int .i64 c) ∧ wx.cell? ⟨mb, 3 + b * 3, none⟩ = some (.int .i64 1) ∧ wx.cell? ⟨mb, 3 + b * 3 + 1, none⟩ = some (.int .i64 p) ∧ wx.cell? ⟨mb, 3 + b * 3 + 2, none⟩ = some (.string emp) ∧ wx.cell? ⟨mb, 3 + c * 3, none⟩ = some (.int .i64 1) ∧ wx.cell? ⟨mb, 3 + c * 3 + 1, none⟩ = some (.int .i64 q) ∧ wx.cell? ⟨mb, 3 + c * 3 + 2, none⟩ = some (.string emp))
    (first | exact (HS.out _ HB2.out).2 | exact (HS.out _ (HB2.out.alloc HB2.out.size _)).2 | exact (HS.out _ ((Below.refl _ _).drew)).2 | exact (HS.out _ (((Below.refl _ _).alloc (Nat.le_refl _) _).drew)).2 | exact (HS.out _ HB4.out).2 | exact (HS.out _ (((HB4.out.setCell (p := ⟨w.heap.size + 1, 0, none⟩) (by simp) _).setCell (p := ⟨w.heap.size + 1, 1, none⟩) (by simp) _).setCell (p := ⟨w.heap.size + 1, 2, none⟩) (by simp) _)).2 | (go_keep; done))
    (first
    | (go_at_call 126
       refine (HD.out _).mono ?_
       rintro e w2 ⟨rfl, hb2⟩
       have HB2 := hid (show Below (w.alloc (io op a b c n vk vi vt)).heap.size (w.alloc (io op a b c n vk vi vt)) w2 from ⟨hb2.os, hb2.tape, hb2.output, hb2.size, hb2.block⟩)
       clear hb2)
    | (go_at_call 126
       refine (HD.out _).mono ?_
       rintro e w4 ⟨rfl, hb4⟩
       have HB5 := hid (show Below ((w.alloc (io op a b c n vk vi vt)).alloc (vo 0 0 emp)).heap.size ((w.alloc (io op a b c n vk vi vt)).alloc (vo 0 0 emp)) w4 from ⟨hb4.os, hb4.tape, hb4.output, hb4.size, hb4.block⟩)
       have HB4 := hid (below_on (below1 (w.alloc (io op a b c n vk vi vt)) (vo 0 0 emp)) HB5.out)
       have hv4 := (show w4.heap[w.heap.size + 1]? = some (vo 0 0 emp) from hp_below (show ((w.alloc (io op a b c n vk vi vt)).alloc (vo 0 0 emp)).heap[w.heap.size + 1]? = some (vo 0 0 emp) from by have := hp_new (w.alloc (io op a b c n vk vi vt)) (vo 0 0 emp); simpa using this) HB5.out (by simp))
       obtain ⟨v0, v1, v2⟩ := V.cells3 hv4
       have hz4 := (fun o => free_of_block (o := o) hv4)
       have HV4 := hid hv4
       clear hb4 hv4))
  · have hx2 := HX.out.1.below (below_on HX.out.2 HB2.out)
    have hz2 := hx2.m.lt
    obtain ⟨z1, -⟩ := HS.out _ HB2.out
    obtain ⟨s0, s1, s2⟩ := hx2.m.reg a a0 a1
    rw [Int.toNat_natCast] at s0 s1 s2
    have hfz := hx2.m.free
    have hz1 := World.block_lt_of_cell? _ _ z1
    dsimp only at hz1
    have H3 := hid (And.intro hx2 (below_on HX.out.2 HB2.out))
    clear hx2
    go_wp2_with (
      go_at_call 161
      refine (insist_range _).mono ?_
      rintro e w' ⟨rfl, e1⟩
      rw [e1]
      clear e1 w')
    exact ⟨rfl, rfl, H3.out.1.below (below1 _ _), (bsx H3.out.2).alloc _⟩
  · have hbW := (((below_on HX.out.2 HB4.out).setCell (p := ⟨w.heap.size + 1, 0, none⟩) (Nat.le_succ _) (.int .i64 0)).setCell (p := ⟨w.heap.size + 1, 1, none⟩) (Nat.le_succ _) (.int .i64 0)).setCell (p := ⟨w.heap.size + 1, 2, none⟩) (Nat.le_succ _) (.string emp)
    have hcW := (HS.out _ (((HB4.out.setCell (p := ⟨w.heap.size + 1, 0, none⟩) (by simp) (.int .i64 0)).setCell (p := ⟨w.heap.size + 1, 1, none⟩) (by simp) (.int .i64 0)).setCell (p := ⟨w.heap.size + 1, 2, none⟩) (by simp) (.string emp))).1
    refine cutG (fun W => MX W B mb s td lk M kv ∧ W.heap[w.heap.size + 1]? = some (vo 0 0 emp) ∧ W.cell? ⟨w.heap.size, 1, none⟩ = some (.int .i64 a) ∧ Below w.heap.size w W) ⟨HX.out.1.below hbW, V.set3 HV4.out _ _ _, hcW, hbW⟩ ?_
    clear hbW hcW v0 v1 v2 hz4
    rename_i hheld
    clear hheld
    rintro W ⟨hxW, hvW, z1, hbW⟩
    have hz2 := hxW.m.lt
    obtain ⟨s0, s1, s2⟩ := hxW.m.reg a a0 a1
    rw [Int.toNat_natCast] at s0 s1 s2
    have hfz := hxW.m.free
    obtain ⟨v0, v1, v2⟩ := V.cells3 hvW
    have H3 := hid (And.intro hxW hbW)
    clear hxW hvW hbW
    go_wp2_with (
      go_at_call 161
      refine (insist_range _).mono ?_
      rintro e w' ⟨rfl, e1⟩
      rw [e1]
      clear e1 w')
    exact ⟨rfl, rfl, H3.out.1, bsx H3.out.2⟩

end

end Go.Proofs.YthcoigbkdbkojaaGreat

namespace Go.Proofs.YthcoigbkdbkojaaGreat
open Go.RowKit Go.MapKept

section
variable {w w' : World} {B mb M : Nat} {s : Ms} {td : List Vd} {lk : List (ByteArray × ByteArray)} {kv : List (ByteArray × Value)}

theorem sub_ok (x : Ins) (p q : Int) (h : MX w B mb s td lk M kv) (a0 : 0 ≤ x.a) (a1 : x.a < 16) (b0 : 0 ≤ x.b) (b1 : x.b < 16) (c0 : 0 ≤ x.c) (c1 : x.c < 16) (hp : s.rg x.b = ⟨1, p, emp⟩) (hq : s.rg x.c = ⟨1, q, emp⟩) (h1 : inR p = true) (h2 : inR q = true) (h3 : inR (p - q) = true) :
    Calls Tryz.prog 90 #[.pointer (some ⟨mb, 0, none⟩), x.val] w (Did B w mb s (s.set x.a ⟨1, p - q, emp⟩) td lk M kv) := by
  have hb0 : Below w.heap.size w (w.alloc (io x.op x.a x.b x.c x.n x.k x.i x.t)) := below1 w _
  have H := hid (reck_sub_ok x p q (h.below hb0) a0 a1 b0 b1 c0 c1 hp hq h1 h2 h3)
  have HB := hid hb0
  clear h hb0 hp hq h1 h2 h3 a0 a1 b0 b1 c0 c1
  obtain ⟨op, a, b, c, n', vk, vi, vt⟩ := x
  unfold Ins.val at H ⊢
  go_enter Tryz.func90, Tryz.ntmps90
  go_wp2_with (
    go_at_call 124
    refine H.out.mono ?_
    rintro e w1 ⟨rfl, hx1, hb1⟩
    have H1 := hid (And.intro hx1 hb1)
    clear hx1 hb1)
  go_end0
  exact ⟨rfl, H1.out.1, (bsx HB.out).trans H1.out.2 (fun _ _ e => e)⟩

theorem add_no (x : Ins) (p q : Int) (h : MX w B mb s td lk M kv) (a0 : 0 ≤ x.a) (a1 : x.a < 16) (b0 : 0 ≤ x.b) (b1 : x.b < 16) (c0 : 0 ≤ x.c) (c1 : x.c < 16) (hp : s.rg x.b = ⟨1, p, emp⟩) (hq : s.rg x.c = ⟨1, q, emp⟩) (h1 : inR p = true) (h2 : inR q = true) (h3 : inR (p + q) = false) :
    Calls Tryz.prog 89 #[.pointer (some ⟨mb, 0, none⟩), x.val] w (Gave B w mb s td lk M kv 3) := by
  have hb0 : Below w.heap.size w (w.alloc (io x.op x.a x.b x.c x.n x.k x.i x.t)) := below1 w _
  have H := hid (reck_add_no x p q (h.below hb0) a0 a1 b0 b1 c0 c1 hp hq h1 h2 h3)
  have HB := hid hb0
  clear h hb0 hp hq h1 h2 h3 a0 a1 b0 b1 c0 c1
  obtain ⟨op, a, b, c, n', vk, vi, vt⟩ := x
  unfold Ins.val at H ⊢
  go_enter Tryz.func89, Tryz.ntmps89
  go_wp2_with (
    go_at_call 124
    refine H.out.mono ?_
    rintro e w1 ⟨rfl, hx1, hb1⟩
    have H1 := hid (And.intro hx1 hb1)
    clear hx1 hb1)
  exact ⟨rfl, rfl, H1.out.1, (bsx HB.out).trans H1.out.2 (fun _ _ e => e)⟩

theorem sub_no (x : Ins) (p q : Int) (h : MX w B mb s td lk M kv) (a0 : 0 ≤ x.a) (a1 : x.a < 16) (b0 : 0 ≤ x.b) (b1 : x.b < 16) (c0 : 0 ≤ x.c) (c1 : x.c < 16) (hp : s.rg x.b = ⟨1, p, emp⟩) (hq : s.rg x.c = ⟨1, q, emp⟩) (h1 : inR p = true) (h2 : inR q = true) (h3 : inR (p - q) = false) :
    Calls Tryz.prog 90 #[.pointer (some ⟨mb, 0, none⟩), x.val] w (Gave B w mb s td lk M kv 3) := by
  have hb0 : Below w.heap.size w (w.alloc (io x.op x.a x.b x.c x.n x.k x.i x.t)) := below1 w _
  have H := hid (reck_sub_no x p q (h.below hb0) a0 a1 b0 b1 c0 c1 hp hq h1 h2 h3)
  have HB := hid hb0
  clear h hb0 hp hq h1 h2 h3 a0 a1 b0 b1 c0 c1
  obtain ⟨op, a, b, c, n', vk, vi, vt⟩ := x
  unfold Ins.val at H ⊢
  go_enter Tryz.func90, Tryz.ntmps90
  go_wp2_with (
    go_at_call 124
    refine H.out.mono ?_
    rintro e w1 ⟨rfl, hx1, hb1⟩
    have H1 := hid (And.intro hx1 hb1)
    clear hx1 hb1)
  exact ⟨rfl, rfl, H1.out.1, (bsx HB.out).trans H1.out.2 (fun _ _ e => e)⟩

/-- The table of operations. -/
abbrev opTab : Obj := .cells #[.nilFunc, .func (.func 84) #[] #[], .func (.func 85) #[] #[], .func (.func 86) #[] #[], .func (.func 87) #[] #[], .func (.func 88) #[] #[], .func (.func 89) #[] #[], .func (.func 90) #[] #[], .func (.func 91) #[] #[], .func (.func 92) #[] #[], .func (.func 93) #[] #[], .func (.func 94) #[] #[], .func (.func 95) #[] #[], .func (.func 96) #[] #[], .func (.func 97) #[] #[], .func (.func 98) #[] #[]] 130

theorem optab_any (w : World) : Calls Tryz.prog 55 #[] w fun e w' => e = .returned (.slice (some ⟨w.heap.size, 0, none⟩) 16 16) ∧ w' = w.alloc opTab := by
  go_enter Tryz.func55, Tryz.ntmps55
  go_wp2
  go_ret
  exact ⟨rfl, rfl⟩

end

end Go.Proofs.YthcoigbkdbkojaaGreat
