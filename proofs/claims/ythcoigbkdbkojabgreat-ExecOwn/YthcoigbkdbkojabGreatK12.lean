import Derived.Test.YthcoigbkdbkojabGreatK11
import Derived.RegionDies
import Derived.StillTailTactics
set_option maxRecDepth 100000
namespace Go.Proofs.YthcoigbkdbkojabGreat
open Go.RowKit
open V (hp_new hp_lt hp_below hp_alloc)
def stE (e : Int) : Int := if e = 14 then 4 else if e = 15 then 3 else if e = 4 then 5 else if e = 5 then 6 else 0
def isErr (e : Int) : Prop := e = 14 ∨ e = 15 ∨ e = 4 ∨ e = 5
theorem insist_14 (w : World) : Calls Tryz.prog 120 #[.int .i64 14] w fun e w' => e = gu 4 ∧ w' = w := by
  go_enter Tryz.func120, Tryz.ntmps120
  go_wp2_with (
    go_at_call 100
    refine (gaveup 4 w).mono ?_
    rintro e w' ⟨rfl, e1⟩
    rw [e1]
    clear e1 w')
  exact ⟨rfl, rfl, rfl⟩
theorem insist_4 (w : World) : Calls Tryz.prog 120 #[.int .i64 4] w fun e w' => e = gu 5 ∧ w' = w := by
  go_enter Tryz.func120, Tryz.ntmps120
  go_wp2_with (
    go_at_call 100
    refine (gaveup 5 w).mono ?_
    rintro e w' ⟨rfl, e1⟩
    rw [e1]
    clear e1 w')
  exact ⟨rfl, rfl, rfl⟩
theorem insist_5 (w : World) : Calls Tryz.prog 120 #[.int .i64 5] w fun e w' => e = gu 6 ∧ w' = w := by
  go_enter Tryz.func120, Tryz.ntmps120
  go_wp2_with (
    go_at_call 100
    refine (gaveup 6 w).mono ?_
    rintro e w' ⟨rfl, e1⟩
    rw [e1]
    clear e1 w')
  exact ⟨rfl, rfl, rfl⟩
theorem insist_no (er : Int) (h : isErr er) (w : World) : Calls Tryz.prog 120 #[.int .i64 er] w fun e w' => e = gu (stE er) ∧ w' = w := by
  rcases h with rfl | rfl | rfl | rfl
  · exact insist_14 w
  · exact insist_range w
  · exact insist_4 w
  · exact insist_5 w
def kErr (v : Vd) : Int := if v.k = 2 ∧ v.i = 0 ∧ v.t.size ≤ 256 then (if isKeyB v.t = true then 0 else 5) else 14
theorem kErr_ok {v : Vd} (h : kErr v = 0) : v.k = 2 ∧ v.i = 0 ∧ v.t.size ≤ 256 ∧ isKeyB v.t = true := by
  unfold kErr at h
  by_cases h1 : v.k = 2 ∧ v.i = 0 ∧ v.t.size ≤ 256
  · rw [if_pos h1] at h
    cases h2 : isKeyB v.t
    · rw [h2] at h; simp at h
    · exact ⟨h1.1, h1.2.1, h1.2.2, rfl⟩
  · rw [if_neg h1] at h; cases h
theorem kErr_no {v : Vd} (h : kErr v ≠ 0) : isErr (kErr v) := by
  unfold kErr at h ⊢
  split
  · rename_i h1
    rw [if_pos h1] at h
    cases h2 : isKeyB v.t
    · simp [isErr]
    · rw [h2] at h; simp at h
  · exact .inl rfl
theorem keyV_eq (v : Vd) : keyV v.k v.i v.t = .tuple #[.string (if kErr v = 0 then v.t else emp), .int .i64 (kErr v)] := by
  unfold keyV kErr
  split
  · split
    · simp
    · simp
  · simp
section
variable {w w' : World} {B mb M : Nat} {s : Ms} {td : List Vd} {lk : List (ByteArray × ByteArray)} {kv : List (ByteArray × Value)}
set_option maxHeartbeats 1600000 in
theorem keym_ok (r : Int) (h : MX w B mb s td lk M kv) (h0 : 0 ≤ r) (h1 : r < 16) (hk : kErr (s.rg r) = 0) :
    Calls Tryz.prog 91 #[.pointer (some ⟨mb, 0, none⟩), .int .i64 r] w fun e w' => e = .returned (.string (s.rg r).t) ∧ Below w.heap.size w w' := by
  obtain ⟨r, rfl⟩ := Int.eq_ofNat_of_zero_le h0
  obtain ⟨r0, r1, r2⟩ := h.m.reg r h0 h1
  rw [Int.toNat_natCast] at r0 r1 r2
  have hv := keyV_eq (s.rg r)
  obtain ⟨er, her⟩ : ∃ er, er = kErr (s.rg r) := ⟨_, rfl⟩
  rw [hk] at hv
  simp only [if_true] at hv
  clear her
  generalize (s.rg ↑r).k = k at *
  generalize (s.rg ↑r).i = i at *
  generalize (s.rg ↑r).t = t at *
  have HK := hid (fun W => key_any k i t W)
  rw [hv] at HK
  clear h hk hv
  go_enter Tryz.func91, Tryz.ntmps91
  go_wp2_with (first
    | (go_at_call 119
       refine (HK.out _).mono ?_
       rintro e w1 ⟨rfl, hb1⟩
       have HB := hid hb1
       clear hb1)
    | (go_at_call 120
       refine (insist_ok _).mono ?_
       rintro e w' ⟨rfl, e1⟩
       rw [e1]
       clear e1 w'))
  go_ret
  exact ⟨rfl, HB.out⟩
set_option maxHeartbeats 1600000 in
theorem keym_no (r : Int) (h : MX w B mb s td lk M kv) (h0 : 0 ≤ r) (h1 : r < 16) (hk : kErr (s.rg r) ≠ 0) :
    Calls Tryz.prog 91 #[.pointer (some ⟨mb, 0, none⟩), .int .i64 r] w fun e w' => e = gu (stE (kErr (s.rg r))) ∧ Below w.heap.size w w' := by
  obtain ⟨r, rfl⟩ := Int.eq_ofNat_of_zero_le h0
  obtain ⟨r0, r1, r2⟩ := h.m.reg r h0 h1
  rw [Int.toNat_natCast] at r0 r1 r2
  have hv := keyV_eq (s.rg r)
  obtain ⟨er, her⟩ : ∃ er, er = kErr (s.rg r) := ⟨_, rfl⟩
  rw [if_neg hk] at hv
  have hie := kErr_no hk
  rw [← her] at hv hie ⊢
  generalize (s.rg ↑r).k = k at *
  generalize (s.rg ↑r).i = i at *
  generalize (s.rg ↑r).t = t at *
  have HK := hid (fun W => key_any k i t W)
  rw [hv] at HK
  have HI := hid (fun W => insist_no er hie W)
  clear h hk hv her hie
  go_enter Tryz.func91, Tryz.ntmps91
  go_wp2_with (first
    | (go_at_call 119
       refine (HK.out _).mono ?_
       rintro e w1 ⟨rfl, hb1⟩
       have HB := hid hb1
       clear hb1)
    | (go_at_call 120
       refine (HI.out _).mono ?_
       rintro e w' ⟨rfl, e1⟩
       rw [e1]
       clear e1 w'))
  exact ⟨rfl, rfl, HB.out⟩
set_option maxHeartbeats 1600000 in
theorem bound_none (r : Int) (h : MX w B mb s td lk M kv) (h0 : 0 ≤ r) (h1 : r < 16) (hk : (s.rg r).k = 0) :
    Calls Tryz.prog 104 #[.pointer (some ⟨mb, 0, none⟩), .int .i64 r] w fun e w' => e = .returned (.string emp) ∧ Below w.heap.size w w' := by
  obtain ⟨r, rfl⟩ := Int.eq_ofNat_of_zero_le h0
  obtain ⟨r0, r1, r2⟩ := h.m.reg r h0 h1
  rw [Int.toNat_natCast] at r0 r1 r2
  rw [hk] at r0
  clear h hk
  go_enter Tryz.func104, Tryz.ntmps104
  go_wp2
  go_ret
  exact ⟨rfl, Below.refl _ _⟩
set_option maxHeartbeats 1600000 in
theorem bound_ok (r : Int) (h : MX w B mb s td lk M kv) (h0 : 0 ≤ r) (h1 : r < 16) (hn : (s.rg r).k ≠ 0) (hk : kErr (s.rg r) = 0) :
    Calls Tryz.prog 104 #[.pointer (some ⟨mb, 0, none⟩), .int .i64 r] w fun e w' => e = .returned (.string (s.rg r).t) ∧ Below w.heap.size w w' := by
  have HK := hid (keym_ok r h h0 h1 hk)
  obtain ⟨r, rfl⟩ := Int.eq_ofNat_of_zero_le h0
  obtain ⟨r0, r1, r2⟩ := h.m.reg r h0 h1
  rw [Int.toNat_natCast] at r0 r1 r2
  have hk0 : ((s.rg ↑r).k == 0) = false := by simpa using hn
  clear h hk hn
  go_enter Tryz.func104, Tryz.ntmps104
  go_wp2_with (
    go_at_call 91
    refine HK.out.mono ?_
    rintro e w1 ⟨rfl, hb1⟩
    have HB := hid hb1
    clear hb1)
  go_ret
  exact ⟨rfl, HB.out⟩
set_option maxHeartbeats 1600000 in
theorem bound_no (r : Int) (h : MX w B mb s td lk M kv) (h0 : 0 ≤ r) (h1 : r < 16) (hn : (s.rg r).k ≠ 0) (hk : kErr (s.rg r) ≠ 0) :
    Calls Tryz.prog 104 #[.pointer (some ⟨mb, 0, none⟩), .int .i64 r] w fun e w' => e = gu (stE (kErr (s.rg r))) ∧ Below w.heap.size w w' := by
  have HK := hid (keym_no r h h0 h1 hk)
  obtain ⟨r, rfl⟩ := Int.eq_ofNat_of_zero_le h0
  obtain ⟨r0, r1, r2⟩ := h.m.reg r h0 h1
  rw [Int.toNat_natCast] at r0 r1 r2
  have hk0 : ((s.rg ↑r).k == 0) = false := by simpa using hn
  clear h hk hn
  go_enter Tryz.func104, Tryz.ntmps104
  go_wp2_with (
    go_at_call 91
    refine HK.out.mono ?_
    rintro e w1 ⟨rfl, hb1⟩
    have HB := hid hb1
    clear hb1)
  exact ⟨rfl, rfl, HB.out⟩
set_option maxHeartbeats 3200000 in
theorem reck_ok (x : Ins) (F : Nat) (hE : ∀ args w, (callFunc F args).run Tryz.prog w = .ok (.enter F args) w) (rk ri : Int) (rt : ByteArray) (h : MX w B mb s td lk M kv) (a0 : 0 ≤ x.a) (a1 : x.a < 16) (b0 : 0 ≤ x.b) (b1 : x.b < 16) (c0 : 0 ≤ x.c) (c1 : x.c < 16)
    (hD : ∀ W, Below w.heap.size w W → Calls Tryz.prog F #[(s.rg x.b).val, (s.rg x.c).val] W fun e w' => e = .returned (.tuple #[vl rk ri rt, .int .i64 0]) ∧ Below W.heap.size W w') :
    Calls Tryz.prog 94 #[.pointer (some ⟨mb, 0, none⟩), x.val, .func (.func F) #[] #[]] w (Did B w mb s (s.set x.a ⟨rk, ri, rt⟩) td lk M kv) := by
  obtain ⟨op, a, b, c, n, vk, vi, vt⟩ := x
  dsimp only at a0 a1 b0 b1 c0 c1 hD ⊢
  obtain ⟨a, rfl⟩ := Int.eq_ofNat_of_zero_le a0
  obtain ⟨b, rfl⟩ := Int.eq_ofNat_of_zero_le b0
  obtain ⟨c, rfl⟩ := Int.eq_ofNat_of_zero_le c0
  have ha2 : a < 16 := by omega
  have hml := h.m.lt
  obtain ⟨s0, s1, s2⟩ := h.m.reg a a0 a1
  obtain ⟨r0, r1, r2⟩ := h.m.reg b b0 b1
  obtain ⟨q0, q1, q2⟩ := h.m.reg c c0 c1
  rw [Int.toNat_natCast] at r0 r1 r2 q0 q1 q2 s0 s1 s2
  obtain ⟨bk, bi, bt, hbv⟩ : ∃ k i t, s.rg ↑b = ⟨k, i, t⟩ := ⟨_, _, _, rfl⟩
  obtain ⟨ck, ci, ct, hcv⟩ : ∃ k i t, s.rg ↑c = ⟨k, i, t⟩ := ⟨_, _, _, rfl⟩
  rw [hbv] at r0 r1 r2 hD
  rw [hcv] at q0 q1 q2 hD
  dsimp only at r0 r1 r2 q0 q1 q2
  have hb0 : Below w.heap.size w (w.alloc (io op a b c n vk vi vt)) := below1 w _
  have HD := hid (show ∀ W, Below w.heap.size w W → Calls Tryz.prog F #[vl bk bi bt, vl ck ci ct] W fun e w' => e = .returned (.tuple #[vl rk ri rt, .int .i64 0]) ∧ Below W.heap.size W w' from hD)
  obtain ⟨-, y1, y2, y3, -⟩ := cells8 (hp_new w (io op a b c n vk vi vt))
  have t0 := (hb0.cell (p := ⟨mb, 3 + b * 3, none⟩) hml).trans r0
  have t1 := (hb0.cell (p := ⟨mb, 3 + b * 3 + 1, none⟩) hml).trans r1
  have t2 := (hb0.cell (p := ⟨mb, 3 + b * 3 + 2, none⟩) hml).trans r2
  have u0 := (hb0.cell (p := ⟨mb, 3 + c * 3, none⟩) hml).trans q0
  have u1 := (hb0.cell (p := ⟨mb, 3 + c * 3 + 1, none⟩) hml).trans q1
  have u2 := (hb0.cell (p := ⟨mb, 3 + c * 3 + 2, none⟩) hml).trans q2
  have HX := hid (And.intro h hb0)
  clear h hbv hcv hD r0 r1 r2 q0 q1 q2 s0 s1 s2
  have HS := hid (show ∀ W, Below (w.alloc (io op a b c n vk vi vt)).heap.size (w.alloc (io op a b c n vk vi vt)) W → W.cell? ⟨w.heap.size, 1, none⟩ = some (.int .i64 a) ∧ W.cell? ⟨w.heap.size, 2, none⟩ = some (.int .i64 b) ∧ W.cell? ⟨w.heap.size, 3, none⟩ = some (.int .i64 c) ∧ W.cell? ⟨mb, 3 + b * 3, none⟩ = some (.int .i64 bk) ∧ W.cell? ⟨mb, 3 + b * 3 + 1, none⟩ = some (.int .i64 bi) ∧ W.cell? ⟨mb, 3 + b * 3 + 2, none⟩ = some (.string bt) ∧ W.cell? ⟨mb, 3 + c * 3, none⟩ = some (.int .i64 ck) ∧ W.cell? ⟨mb, 3 + c * 3 + 1, none⟩ = some (.int .i64 ci) ∧ W.cell? ⟨mb, 3 + c * 3 + 2, none⟩ = some (.string ct) from fun W hb =>
    ⟨(hb.cell (World.block_lt_of_cell? _ _ y1)).trans y1, (hb.cell (World.block_lt_of_cell? _ _ y2)).trans y2, (hb.cell (World.block_lt_of_cell? _ _ y3)).trans y3, (hb.cell (World.block_lt_of_cell? _ _ t0)).trans t0, (hb.cell (World.block_lt_of_cell? _ _ t1)).trans t1, (hb.cell (World.block_lt_of_cell? _ _ t2)).trans t2, (hb.cell (World.block_lt_of_cell? _ _ u0)).trans u0, (hb.cell (World.block_lt_of_cell? _ _ u1)).trans u1, (hb.cell (World.block_lt_of_cell? _ _ u2)).trans u2⟩)
  clear t0 t1 t2 u0 u1 u2 y1 y2 y3 hb0
  unfold Ins.val
  go_enter Tryz.func94, Tryz.ntmps94
  go_wp2_with fail
  go_region_held3 (fun wx => wx.cell? ⟨w.heap.size, 2, none⟩ = some (.int .i64 b) ∧ wx.cell? ⟨w.heap.size, 3, none⟩ = some (.int .i64 c) ∧ wx.cell? ⟨mb, 3 + b * 3, none⟩ = some (.int .i64 bk) ∧ wx.cell? ⟨mb, 3 + b * 3 + 1, none⟩ = some (.int .i64 bi) ∧ wx.cell? ⟨mb, 3 + b * 3 + 2, none⟩ = some (.string bt) ∧ wx.cell? ⟨mb, 3 + c * 3, none⟩ = some (.int .i64 ck) ∧ wx.cell? ⟨mb, 3 + c * 3 + 1, none⟩ = some (.int .i64 ci) ∧ wx.cell? ⟨mb, 3 + c * 3 + 2, none⟩ = some (.string ct))
    (first | exact (HS.out _ HB2.out).2 | exact (HS.out _ (HB2.out.alloc HB2.out.size _)).2 | exact (HS.out _ ((Below.refl _ _).drew)).2 | exact (HS.out _ (((Below.refl _ _).alloc (Nat.le_refl _) _).drew)).2 | exact (HS.out _ HB4.out).2 | exact (HS.out _ (((HB4.out.setCell (p := ⟨w.heap.size + 1, 0, none⟩) (by simp) _).setCell (p := ⟨w.heap.size + 1, 1, none⟩) (by simp) _).setCell (p := ⟨w.heap.size + 1, 2, none⟩) (by simp) _)).2 | (go_keep; done))
    (first
    | (go_at_fn F
       refine (HD.out _ (HX.out.2.drew)).mono ?_
       rintro e w2 ⟨rfl, hb2⟩
       have HB2 := hid (show Below (w.alloc (io op a b c n vk vi vt)).heap.size (w.alloc (io op a b c n vk vi vt)) w2 from ⟨hb2.os, hb2.tape, hb2.output, hb2.size, hb2.block⟩)
       clear hb2)
    | (go_at_fn F
       refine (HD.out _ ((HX.out.2.alloc HX.out.2.size _).drew)).mono ?_
       rintro e w4 ⟨rfl, hb4⟩
       have HB5 := hid (show Below ((w.alloc (io op a b c n vk vi vt)).alloc (vo 0 0 emp)).heap.size ((w.alloc (io op a b c n vk vi vt)).alloc (vo 0 0 emp)) w4 from ⟨hb4.os, hb4.tape, hb4.output, hb4.size, hb4.block⟩)
       have HB4 := hid (below_on (below1 (w.alloc (io op a b c n vk vi vt)) (vo 0 0 emp)) HB5.out)
       have hv4 := (show w4.heap[w.heap.size + 1]? = some (vo 0 0 emp) from hp_below (show ((w.alloc (io op a b c n vk vi vt)).alloc (vo 0 0 emp)).heap[w.heap.size + 1]? = some (vo 0 0 emp) from by have := hp_new (w.alloc (io op a b c n vk vi vt)) (vo 0 0 emp); simpa using this) HB5.out (by simp))
       obtain ⟨v0, v1, v2⟩ := V.cells3 hv4
       have hz4 := (fun o => free_of_block (o := o) hv4)
       have HV4 := hid hv4
       clear hb4 hv4))
  · have hx2 := HX.out.1.below (below_on HX.out.2 HB2.out)
    have hz2 := hx2.m.lt
    obtain ⟨z1, -⟩ := HS.out _ HB2.out
    obtain ⟨s0, s1, s2⟩ := hx2.m.reg a a0 a1
    rw [Int.toNat_natCast] at s0 s1 s2
    have hfz := hx2.m.free
    have hz1 := World.block_lt_of_cell? _ _ z1
    dsimp only at hz1
    have H3 := hid (And.intro hx2 (below_on HX.out.2 HB2.out))
    clear hx2
    go_wp2_with (
      go_at_call 120
      refine (insist_ok _).mono ?_
      rintro e w' ⟨rfl, e1⟩
      rw [e1]
      clear e1 w')
    go_region
    all_goals
      go_end0
      obtain ⟨-, d2, d3⟩ := did_set H3.out.1 a ha2 ⟨rk, ri, rt⟩ (vo rk ri rt)
      exact ⟨rfl, d2, (bsx H3.out.2).trans d3 (fun _ _ e => e)⟩
  · have hbW := (((below_on HX.out.2 HB4.out).setCell (p := ⟨w.heap.size + 1, 0, none⟩) (Nat.le_succ _) (.int .i64 rk)).setCell (p := ⟨w.heap.size + 1, 1, none⟩) (Nat.le_succ _) (.int .i64 ri)).setCell (p := ⟨w.heap.size + 1, 2, none⟩) (Nat.le_succ _) (.string rt)
    have hcW := (HS.out _ (((HB4.out.setCell (p := ⟨w.heap.size + 1, 0, none⟩) (by simp) (.int .i64 rk)).setCell (p := ⟨w.heap.size + 1, 1, none⟩) (by simp) (.int .i64 ri)).setCell (p := ⟨w.heap.size + 1, 2, none⟩) (by simp) (.string rt))).1
    refine cutG (fun W => MX W B mb s td lk M kv ∧ W.heap[w.heap.size + 1]? = some (vo rk ri rt) ∧ W.cell? ⟨w.heap.size, 1, none⟩ = some (.int .i64 a) ∧ Below w.heap.size w W) ⟨HX.out.1.below hbW, V.set3 HV4.out _ _ _, hcW, hbW⟩ ?_
    clear hbW hcW v0 v1 v2 hz4
    rename_i hheld
    clear hheld
    rintro W ⟨hxW, hvW, z1, hbW⟩
    have hz2 := hxW.m.lt
    obtain ⟨s0, s1, s2⟩ := hxW.m.reg a a0 a1
    rw [Int.toNat_natCast] at s0 s1 s2
    have hfz := hxW.m.free
    obtain ⟨v0, v1, v2⟩ := V.cells3 hvW
    have H3 := hid (And.intro hxW hbW)
    clear hxW hvW hbW
    go_wp2_with (
      go_at_call 120
      refine (insist_ok _).mono ?_
      rintro e w' ⟨rfl, e1⟩
      rw [e1]
      clear e1 w')
    go_region
    all_goals
      go_end0
      obtain ⟨-, d2, d3⟩ := did_set0 H3.out.1 a ha2 ⟨rk, ri, rt⟩
      exact ⟨rfl, d2, (bsx H3.out.2).trans d3 (fun _ _ e => e)⟩
set_option maxHeartbeats 3200000 in
theorem reck_no (x : Ins) (F : Nat) (hE : ∀ args w, (callFunc F args).run Tryz.prog w = .ok (.enter F args) w) (rk ri : Int) (rt : ByteArray) (er : Int) (hie : isErr er) (h : MX w B mb s td lk M kv) (a0 : 0 ≤ x.a) (a1 : x.a < 16) (b0 : 0 ≤ x.b) (b1 : x.b < 16) (c0 : 0 ≤ x.c) (c1 : x.c < 16)
    (hD : ∀ W, Below w.heap.size w W → Calls Tryz.prog F #[(s.rg x.b).val, (s.rg x.c).val] W fun e w' => e = .returned (.tuple #[vl rk ri rt, .int .i64 er]) ∧ Below W.heap.size W w') :
    Calls Tryz.prog 94 #[.pointer (some ⟨mb, 0, none⟩), x.val, .func (.func F) #[] #[]] w (Gave B w mb s td lk M kv (stE er)) := by
  obtain ⟨op, a, b, c, n, vk, vi, vt⟩ := x
  dsimp only at a0 a1 b0 b1 c0 c1 hD ⊢
  obtain ⟨a, rfl⟩ := Int.eq_ofNat_of_zero_le a0
  obtain ⟨b, rfl⟩ := Int.eq_ofNat_of_zero_le b0
  obtain ⟨c, rfl⟩ := Int.eq_ofNat_of_zero_le c0
  have ha2 : a < 16 := by omega
  have hml := h.m.lt
  obtain ⟨s0, s1, s2⟩ := h.m.reg a a0 a1
  obtain ⟨r0, r1, r2⟩ := h.m.reg b b0 b1
  obtain ⟨q0, q1, q2⟩ := h.m.reg c c0 c1
  rw [Int.toNat_natCast] at r0 r1 r2 q0 q1 q2 s0 s1 s2
  obtain ⟨bk, bi, bt, hbv⟩ : ∃ k i t, s.rg ↑b = ⟨k, i, t⟩ := ⟨_, _, _, rfl⟩
  obtain ⟨ck, ci, ct, hcv⟩ : ∃ k i t, s.rg ↑c = ⟨k, i, t⟩ := ⟨_, _, _, rfl⟩
  rw [hbv] at r0 r1 r2 hD
  rw [hcv] at q0 q1 q2 hD
  dsimp only at r0 r1 r2 q0 q1 q2
  have hb0 : Below w.heap.size w (w.alloc (io op a b c n vk vi vt)) := below1 w _
  have HD := hid (show ∀ W, Below w.heap.size w W → Calls Tryz.prog F #[vl bk bi bt, vl ck ci ct] W fun e w' => e = .returned (.tuple #[vl rk ri rt, .int .i64 er]) ∧ Below W.heap.size W w' from hD)
  obtain ⟨-, y1, y2, y3, -⟩ := cells8 (hp_new w (io op a b c n vk vi vt))
  have t0 := (hb0.cell (p := ⟨mb, 3 + b * 3, none⟩) hml).trans r0
  have t1 := (hb0.cell (p := ⟨mb, 3 + b * 3 + 1, none⟩) hml).trans r1
  have t2 := (hb0.cell (p := ⟨mb, 3 + b * 3 + 2, none⟩) hml).trans r2
  have u0 := (hb0.cell (p := ⟨mb, 3 + c * 3, none⟩) hml).trans q0
  have u1 := (hb0.cell (p := ⟨mb, 3 + c * 3 + 1, none⟩) hml).trans q1
  have u2 := (hb0.cell (p := ⟨mb, 3 + c * 3 + 2, none⟩) hml).trans q2
  have HX := hid (And.intro h hb0)
  have HI := hid (fun W => insist_no er hie W)
  clear h hbv hcv hD r0 r1 r2 q0 q1 q2 s0 s1 s2 hie
  have HS := hid (show ∀ W, Below (w.alloc (io op a b c n vk vi vt)).heap.size (w.alloc (io op a b c n vk vi vt)) W → W.cell? ⟨w.heap.size, 1, none⟩ = some (.int .i64 a) ∧ W.cell? ⟨w.heap.size, 2, none⟩ = some (.int .i64 b) ∧ W.cell? ⟨w.heap.size, 3, none⟩ = some (.int .i64 c) ∧ W.cell? ⟨mb, 3 + b * 3, none⟩ = some (.int .i64 bk) ∧ W.cell? ⟨mb, 3 + b * 3 + 1, none⟩ = some (.int .i64 bi) ∧ W.cell? ⟨mb, 3 + b * 3 + 2, none⟩ = some (.string bt) ∧ W.cell? ⟨mb, 3 + c * 3, none⟩ = some (.int .i64 ck) ∧ W.cell? ⟨mb, 3 + c * 3 + 1, none⟩ = some (.int .i64 ci) ∧ W.cell? ⟨mb, 3 + c * 3 + 2, none⟩ = some (.string ct) from fun W hb =>
    ⟨(hb.cell (World.block_lt_of_cell? _ _ y1)).trans y1, (hb.cell (World.block_lt_of_cell? _ _ y2)).trans y2, (hb.cell (World.block_lt_of_cell? _ _ y3)).trans y3, (hb.cell (World.block_lt_of_cell? _ _ t0)).trans t0, (hb.cell (World.block_lt_of_cell? _ _ t1)).trans t1, (hb.cell (World.block_lt_of_cell? _ _ t2)).trans t2, (hb.cell (World.block_lt_of_cell? _ _ u0)).trans u0, (hb.cell (World.block_lt_of_cell? _ _ u1)).trans u1, (hb.cell (World.block_lt_of_cell? _ _ u2)).trans u2⟩)
  clear t0 t1 t2 u0 u1 u2 y1 y2 y3 hb0
  unfold Ins.val
  go_enter Tryz.func94, Tryz.ntmps94
  go_wp2_with fail
  go_region_held3 (fun wx => wx.cell? ⟨w.heap.size, 2, none⟩ = some (.int .i64 b) ∧ wx.cell? ⟨w.heap.size, 3, none⟩ = some (.int .i64 c) ∧ wx.cell? ⟨mb, 3 + b * 3, none⟩ = some (.int .i64 bk) ∧ wx.cell? ⟨mb, 3 + b * 3 + 1, none⟩ = some (.int .i64 bi) ∧ wx.cell? ⟨mb, 3 + b * 3 + 2, none⟩ = some (.string bt) ∧ wx.cell? ⟨mb, 3 + c * 3, none⟩ = some (.int .i64 ck) ∧ wx.cell? ⟨mb, 3 + c * 3 + 1, none⟩ = some (.int .i64 ci) ∧ wx.cell? ⟨mb, 3 + c * 3 + 2, none⟩ = some (.string ct))
    (first | exact (HS.out _ HB2.out).2 | exact (HS.out _ (HB2.out.alloc HB2.out.size _)).2 | exact (HS.out _ ((Below.refl _ _).drew)).2 | exact (HS.out _ (((Below.refl _ _).alloc (Nat.le_refl _) _).drew)).2 | exact (HS.out _ HB4.out).2 | exact (HS.out _ (((HB4.out.setCell (p := ⟨w.heap.size + 1, 0, none⟩) (by simp) _).setCell (p := ⟨w.heap.size + 1, 1, none⟩) (by simp) _).setCell (p := ⟨w.heap.size + 1, 2, none⟩) (by simp) _)).2 | (go_keep; done))
    (first
    | (go_at_fn F
       refine (HD.out _ (HX.out.2.drew)).mono ?_
       rintro e w2 ⟨rfl, hb2⟩
       have HB2 := hid (show Below (w.alloc (io op a b c n vk vi vt)).heap.size (w.alloc (io op a b c n vk vi vt)) w2 from ⟨hb2.os, hb2.tape, hb2.output, hb2.size, hb2.block⟩)
       clear hb2)
    | (go_at_fn F
       refine (HD.out _ ((HX.out.2.alloc HX.out.2.size _).drew)).mono ?_
       rintro e w4 ⟨rfl, hb4⟩
       have HB5 := hid (show Below ((w.alloc (io op a b c n vk vi vt)).alloc (vo 0 0 emp)).heap.size ((w.alloc (io op a b c n vk vi vt)).alloc (vo 0 0 emp)) w4 from ⟨hb4.os, hb4.tape, hb4.output, hb4.size, hb4.block⟩)
       have HB4 := hid (below_on (below1 (w.alloc (io op a b c n vk vi vt)) (vo 0 0 emp)) HB5.out)
       have hv4 := (show w4.heap[w.heap.size + 1]? = some (vo 0 0 emp) from hp_below (show ((w.alloc (io op a b c n vk vi vt)).alloc (vo 0 0 emp)).heap[w.heap.size + 1]? = some (vo 0 0 emp) from by have := hp_new (w.alloc (io op a b c n vk vi vt)) (vo 0 0 emp); simpa using this) HB5.out (by simp))
       obtain ⟨v0, v1, v2⟩ := V.cells3 hv4
       have hz4 := (fun o => free_of_block (o := o) hv4)
       have HV4 := hid hv4
       clear hb4 hv4))
  · have hx2 := HX.out.1.below (below_on HX.out.2 HB2.out)
    have hz2 := hx2.m.lt
    obtain ⟨z1, -⟩ := HS.out _ HB2.out
    obtain ⟨s0, s1, s2⟩ := hx2.m.reg a a0 a1
    rw [Int.toNat_natCast] at s0 s1 s2
    have hfz := hx2.m.free
    have hz1 := World.block_lt_of_cell? _ _ z1
    dsimp only at hz1
    have H3 := hid (And.intro hx2 (below_on HX.out.2 HB2.out))
    clear hx2
    go_wp2_with (
      go_at_call 120
      refine (HI.out _).mono ?_
      rintro e w' ⟨rfl, e1⟩
      rw [e1]
      clear e1 w')
    exact ⟨rfl, rfl, H3.out.1.below (below1 _ _), (bsx H3.out.2).alloc _⟩
  · have hbW := (((below_on HX.out.2 HB4.out).setCell (p := ⟨w.heap.size + 1, 0, none⟩) (Nat.le_succ _) (.int .i64 rk)).setCell (p := ⟨w.heap.size + 1, 1, none⟩) (Nat.le_succ _) (.int .i64 ri)).setCell (p := ⟨w.heap.size + 1, 2, none⟩) (Nat.le_succ _) (.string rt)
    have hcW := (HS.out _ (((HB4.out.setCell (p := ⟨w.heap.size + 1, 0, none⟩) (by simp) (.int .i64 rk)).setCell (p := ⟨w.heap.size + 1, 1, none⟩) (by simp) (.int .i64 ri)).setCell (p := ⟨w.heap.size + 1, 2, none⟩) (by simp) (.string rt))).1
    refine cutG (fun W => MX W B mb s td lk M kv ∧ W.heap[w.heap.size + 1]? = some (vo rk ri rt) ∧ W.cell? ⟨w.heap.size, 1, none⟩ = some (.int .i64 a) ∧ Below w.heap.size w W) ⟨HX.out.1.below hbW, V.set3 HV4.out _ _ _, hcW, hbW⟩ ?_
    clear hbW hcW v0 v1 v2 hz4
    rename_i hheld
    clear hheld
    rintro W ⟨hxW, hvW, z1, hbW⟩
    have hz2 := hxW.m.lt
    obtain ⟨s0, s1, s2⟩ := hxW.m.reg a a0 a1
    rw [Int.toNat_natCast] at s0 s1 s2
    have hfz := hxW.m.free
    obtain ⟨v0, v1, v2⟩ := V.cells3 hvW
    have H3 := hid (And.intro hxW hbW)
    clear hxW hvW hbW
    go_wp2_with (
      go_at_call 120
      refine (HI.out _).mono ?_
      rintro e w' ⟨rfl, e1⟩
      rw [e1]
      clear e1 w')
    exact ⟨rfl, rfl, H3.out.1, bsx H3.out.2⟩
end
end Go.Proofs.YthcoigbkdbkojabGreat
namespace Go.Proofs.YthcoigbkdbkojabGreat
open Go.RowKit Go.MapKept
open V (hp_new hp_lt hp_below hp_alloc)
abbrev KV := List (ByteArray × Vd)
def kvV (l : KV) : List (ByteArray × Value) := l.map fun x => (x.1, x.2.val)
def lkp (key : ByteArray) : KV → Option Vd
  | [] => none
  | x :: l => if x.1 = key then some x.2 else lkp key l
def kset (key : ByteArray) (v : Vd) : KV → KV
  | [] => [(key, v)]
  | x :: l => if x.1 = key then (key, v) :: l else x :: kset key v l
theorem kvV_keys (l : KV) : (kvV l).map Prod.fst = l.map Prod.fst := by simp [kvV]
theorem lkp_none {key : ByteArray} : ∀ {l : KV}, lkp key l = none ↔ key ∉ l.map Prod.fst
  | [] => by simp [lkp]
  | x :: l => by
    unfold lkp
    by_cases h : x.1 = key
    · rw [if_pos h]; simp [h]
    · rw [if_neg h, lkp_none (l := l)]
      simp [Ne.symm h]
theorem kset_new {key : ByteArray} {v : Vd} : ∀ {l : KV}, lkp key l = none → kset key v l = l ++ [(key, v)]
  | [], _ => rfl
  | x :: l, h => by
    unfold lkp at h
    by_cases e : x.1 = key
    · rw [if_pos e] at h; cases h
    · rw [if_neg e] at h
      unfold kset
      rw [if_neg e, kset_new h]
      rfl
theorem lkp_kset (k key : ByteArray) (v : Vd) : ∀ (l : KV), lkp k (kset key v l) = if k = key then some v else lkp k l
  | [] => by
    unfold kset lkp lkp
    by_cases e : key = k
    · rw [if_pos e, if_pos e.symm]
    · rw [if_neg e, if_neg (Ne.symm e)]
  | x :: l => by
    unfold kset
    by_cases e : x.1 = key
    · rw [if_pos e]
      unfold lkp
      by_cases e2 : key = k
      · rw [if_pos e2, if_pos e2.symm]
      · rw [if_neg e2, if_neg (Ne.symm e2), if_neg (by rw [e]; exact e2)]
    · rw [if_neg e]
      unfold lkp
      rw [lkp_kset k key v l]
      by_cases e2 : x.1 = k
      · rw [if_pos e2, if_pos e2, if_neg (fun h => e (e2.trans h))]
      · rw [if_neg e2, if_neg e2]
theorem kset_keys (key : ByteArray) (v : Vd) (l : KV) : ∀ k, k ∈ (kset key v l).map Prod.fst ↔ k = key ∨ k ∈ l.map Prod.fst := by
  intro k
  have h := lkp_kset k key v l
  by_cases e : k = key
  · rw [if_pos e] at h
    have : ¬ lkp k (kset key v l) = none := by rw [h]; simp
    rw [lkp_none] at this
    exact ⟨fun _ => .inl e, fun _ => by simpa using this⟩
  · rw [if_neg e] at h
    constructor
    · intro hm
      right
      by_cases e2 : lkp k l = none
      · rw [e2, lkp_none] at h; exact absurd hm h
      · rw [lkp_none] at e2; simpa using e2
    · rintro (e2 | hm)
      · exact absurd e2 e
      · by_cases e2 : lkp k (kset key v l) = none
        · rw [h, lkp_none] at e2; exact absurd hm e2
        · rw [lkp_none] at e2; simpa using e2
theorem kset_len (key : ByteArray) (v : Vd) : ∀ (l : KV), (kset key v l).length ≤ l.length + 1
  | [] => by simp [kset]
  | x :: l => by
    unfold kset
    split
    · simp
    · have := kset_len key v l
      simp only [List.length_cons]
      omega
theorem kset_old {key : ByteArray} {v v0 : Vd} : ∀ {l : KV} {j : Nat}, (l.map Prod.fst).Nodup → l[j]? = some (key, v0) → kset key v l = l.set j (key, v)
  | [], j, _, h => by simp at h
  | x :: l, 0, hn, h => by
    simp at h
    subst h
    unfold kset
    rw [if_pos rfl]
    rfl
  | x :: l, j + 1, hn, h => by
    simp at h
    have hm : (key, v0) ∈ l := List.mem_of_getElem? h
    rw [List.map_cons, List.nodup_cons] at hn
    have e : ¬ x.1 = key := fun e => hn.1 (by rw [e]; exact List.mem_map.2 ⟨_, hm, rfl⟩)
    unfold kset
    rw [if_neg e, kset_old hn.2 h]
    rfl
def lkG {κ β : Type} [DecidableEq κ] (key : κ) : List (κ × β) → Option β
  | [] => none
  | x :: l => if x.1 = key then some x.2 else lkG key l
theorem lkp_lkG (key : ByteArray) : ∀ l : KV, lkp key l = lkG key l
  | [] => rfl
  | x :: l => by unfold lkp lkG; rw [lkp_lkG key l]
theorem look_gen {κ β : Type} [DecidableEq κ] (f : β → Value) (key : κ) : ∀ l : List (κ × β), List.lookup key (l.map fun x => (x.1, f x.2)) = (lkG key l).map f
  | [] => rfl
  | x :: l => by
    unfold lkG
    rw [List.map_cons, List.lookup_cons]
    by_cases e : x.1 = key
    · rw [if_pos e, show (key == x.1) = true by simp [e]]
      rfl
    · rw [if_neg e, show (key == x.1) = false by simpa using Ne.symm e]
      exact look_gen f key l
theorem upd_old {w : World} {t k e : TypeId} {d : TypeDesc} (ht : Tryz.prog.underlying t = some (.map k e)) (hk : Tryz.prog.underlying k = some d) {b : Nat} {es : Array MapEntry} {c : Nat} (hb : w.heap[b]? = some (.map es c)) {key : Value} (hi : IsKey d key) (v : Value) {i : Nat} {v0 : Value}
    (hf : Instr.findNow d key es.toList 0 = some (some (i, v0))) (hj : (es[i]?).map (·.key) = some key) : (Instr.mapUpdate t (.map (some b)) key v).run Tryz.prog w = .ok () (puts w b (.map (es.modify i fun e => { e with key := key, val := v }) c)) := by
  simp only [Instr.mapUpdate, Sem.run_bind, run_underlying ht, Result.andThen, MapKept.run_getObj_map hb, MapKept.run_checkKey hk hi, run_findKey hk hf, hj, Option.getD_some, MapKept.run_keyThatStays hi, MapKept.run_setObj_map _ hb, puts]
theorem MG.set {w w' : World} {b c : Nat} {kv : List (ByteArray × Value)} {es : Array MapEntry} (h : MG KS w b kv es c) {k : ByteArray} {v0 : Value} (v : Value) {j : Nat} (hj : kv[j]? = some (k, v0)) (hb : w'.heap[b]? = some (.map (es.modify j fun e => { e with key := .string k, val := v }) c)) :
    MG KS w' b (kv.set j (k, v)) (es.modify j fun e => { e with key := .string k, val := v }) c := by
  have hl : (es.modify j fun e => { e with key := Value.string k, val := v }).toList = es.toList.modify j (fun e => { e with key := Value.string k, val := v }) := Array.toList_modify ..
  have hb1 : (es.modify j fun e => { e with key := Value.string k, val := v }).toList.map MapEntry.born = es.toList.map MapEntry.born := by
    rw [hl]
    apply List.ext_getElem?
    intro i
    simp only [List.getElem?_map, List.getElem?_modify]
    cases es.toList[i]? with
    | none => rfl
    | some a => by_cases e : j = i <;> simp [e]
  refine ⟨hb, ?_, ?_, ?_, ?_⟩
  · intro x hx
    have h1 : x.born ∈ es.toList.map MapEntry.born := by rw [← hb1]; exact List.mem_map.2 ⟨x, hx, rfl⟩
    obtain ⟨y, hy, e⟩ := List.mem_map.1 h1
    rw [← e]
    exact h.hold y hy
  · rw [hb1]; exact h.nd
  · rw [hl]
    apply List.ext_getElem?
    intro i
    have h2 := congrArg (fun l => l[i]?) h.kvs
    simp only [List.getElem?_map] at h2
    simp only [List.getElem?_map, List.getElem?_modify, List.getElem?_set]
    have hjl : j < kv.length := (List.getElem?_eq_some_iff.1 hj).1
    by_cases e : j = i
    · subst e
      rw [hj] at h2
      cases h3 : es.toList[j]? with
      | none => rw [h3] at h2; simp at h2
      | some a => simp [hjl]; rfl
    · rw [if_neg e]
      simp only [if_neg e]
      rw [← h2]
      cases es.toList[i]? with
      | none => rfl
      | some a => rfl
  · have : (kv.set j (k, v)).map Prod.fst = kv.map Prod.fst := by
      apply List.ext_getElem?
      intro i
      simp only [List.getElem?_map, List.getElem?_set]
      by_cases e : j = i
      · subst e
        rw [hj]
        have hjl : j < kv.length := (List.getElem?_eq_some_iff.1 hj).1
        simp [hjl]
      · rw [if_neg e]
    rw [this]
    exact h.keys
section
variable {w w' : World} {B mb M : Nat} {s : Ms} {td : List Vd} {lk : List (ByteArray × ByteArray)} {l : KV}
theorem MX.nodup (h : MX w B mb s td lk M (kvV l)) : (l.map Prod.fst).Nodup := by
  obtain ⟨es, c, g⟩ := h.mg
  have := g.keys
  rwa [kvV_keys] at this
theorem MX.map (h : MX w B mb s td lk M (kvV l)) {w2 : World} {l' : KV} (hg : ∃ es c, MG KS w2 M (kvV l') es c) (hk : Kept (fun k => k = M) w w2) : MX w2 B mb s td lk M (kvV l') := by
  obtain ⟨es, c, g⟩ := h.mg
  obtain ⟨cs, hbm, -⟩ := h.m.ex
  have hnm : ¬ mb = M := fun e => by have h1 := g.blk; rw [← e, hbm] at h1; cases h1
  refine ⟨h.m.kept hk hnm, h.ge, ?_, ?_, h.wv, hg, h.gm⟩
  · exact ownsRow_kept h.td hk (fun k e e2 => owns_blk h.td (k := M) (by rw [← e2]; exact e) g.blk (fun cs e => by cases e))
  · exact ownsRow_kept h.lk hk (fun k e e2 => owns_blk h.lk (k := M) (by rw [← e2]; exact e) g.blk (fun cs e => by cases e))
theorem kvV_set (l : KV) (j : Nat) (k : ByteArray) (v : Vd) : kvV (l.set j (k, v)) = (kvV l).set j (k, v.val) := by
  unfold kvV
  rw [List.map_set]
theorem MX.upd (h : MX w B mb s td lk M (kvV l)) (key : ByteArray) (v : Vd) :
    ∃ o, (Instr.mapUpdate 74 (.map (some M)) (.string key) v.val).run Tryz.prog w = .ok () (puts w M o) ∧ MX (puts w M o) B mb s td lk M (kvV (kset key v l)) ∧ Kept (fun k => k = M) w (puts w M o) := by
  have hnd := h.nodup
  obtain ⟨es, c, g⟩ := h.mg
  have hk : ∀ o, Kept (fun k => k = M) w (puts w M o) := fun o => (Kept.refl _ w).grown (puts_grown _ _ _) (fun k _ e => by injection e with e; exact e.symm)
  rcases find_kv KS key es.toList (kvV l) 0 g.kvs with ⟨h1, h2⟩ | ⟨v0, j, h1, h2, h3⟩
  · refine ⟨_, upd_new Tryz.underlying74 Tryz.underlying9 g.blk (key_str key) v.val h2, ?_, hk _⟩
    have hn : lkp key l = none := by
      unfold kvV at h1
      rw [look_gen Vd.val, ← lkp_lkG] at h1
      cases hq : lkp key l with
      | none => rfl
      | some x => rw [hq] at h1; cases h1
    refine h.map (l' := kset key v l) ⟨es.push { key := .string key, val := v.val, born := c }, c + 1, ?_⟩ (hk _)
    rw [kset_new hn, show kvV (l ++ [(key, v)]) = kvV l ++ [(key, v.val)] by simp [kvV]]
    exact g.push key v.val h1 (puts_same g.blk)
  · rw [Nat.zero_add] at h3
    have hj : (es[j]?).map (·.key) = some (.string key) := by
      have h4 := congrArg (fun l => l[j]?) g.kvs
      simp only [List.getElem?_map] at h4
      rw [h2] at h4
      cases h5 : es.toList[j]? with
      | none => rw [h5] at h4; simp at h4
      | some a =>
        rw [h5] at h4
        simp only [Option.map_some, Option.some.injEq, Prod.mk.injEq] at h4
        have h6 : es[j]? = some a := by simpa using h5
        rw [h6]
        simp only [Option.map_some]
        rw [h4.1]
        rfl
    refine ⟨_, upd_old Tryz.underlying74 Tryz.underlying9 g.blk (key_str key) v.val h3 hj, ?_, hk _⟩
    refine h.map (l' := kset key v l) ⟨es.modify j fun e => { e with key := .string key, val := v.val }, c, ?_⟩ (hk _)
    have h7 : ∃ v1, l[j]? = some (key, v1) := by
      unfold kvV at h2
      rw [List.getElem?_map] at h2
      cases h8 : l[j]? with
      | none => rw [h8] at h2; cases h2
      | some a =>
        rw [h8] at h2
        simp only [Option.map_some, Option.some.injEq, Prod.mk.injEq] at h2
        exact ⟨a.2, by rw [← h2.1]⟩
    obtain ⟨v1, h7⟩ := h7
    rw [kset_old hnd h7, kvV_set]
    exact g.set v.val h2 (puts_same g.blk)
end
set_option maxHeartbeats 1600000 in
theorem copied_m (k i : Int) (t : ByteArray) (ht : t.size ≤ 281474976710656) (w : World) : Calls Tryz.prog 81 #[vl k i t] w fun e w' => e = .returned (vl k i t) ∧ Below w.heap.size w w' := by
  have hc := fun W => strClone_any t W ht
  have HC := hid hc
  have hb2 : Below w.heap.size w ((w.alloc (vo k i t)).alloc (vo 0 0 emp)) := below2 w _ _
  have HB := hid hb2
  clear hc hb2
  go_enter Tryz.func81, Tryz.ntmps81
  go_wp2_with (first
    | (go_at_call 80
       refine (HC.out _).mono ?_
       rintro e w1 ⟨rfl, hb1⟩
       have hr1 := blk_of hb1 (two1 w (vo k i t) (vo 0 0 emp)) (by simp; omega)
       have hr2 := blk_of hb1 (two2 w (vo k i t) (vo 0 0 emp)) (by simp)
       have hz1 := hp_lt hr1
       have hz2 := hp_lt hr2
       obtain ⟨k0, k1, k2, k3⟩ := vfacts hr1
       obtain ⟨l0, l1, l2, l3⟩ := vfacts hr2
       have H1 := hid (And.intro hr2 (below_on HB.out hb1))
       clear hr1 hr2 hb1))
  refine bodyPost_ret (ret_agg Tryz.results81 rfl (set3 (V.hp_set H1.out.1 (p := ⟨w.heap.size, 2, none⟩) (by simp) _) _ _ _)) rfl ?_
  exact ⟨rfl, (((H1.out.2.setCell (p := ⟨w.heap.size, 2, none⟩) (Nat.le_refl _) _).setCell (p := ⟨w.heap.size + 1, 0, none⟩) (Nat.le_succ _) _).setCell (p := ⟨w.heap.size + 1, 1, none⟩) (Nat.le_succ _) _).setCell (p := ⟨w.heap.size + 1, 2, none⟩) (Nat.le_succ _) _⟩
section
variable {w w' : World} {B mb M : Nat} {s : Ms} {td : List Vd} {lk : List (ByteArray × ByteArray)} {kv : List (ByteArray × Value)}
theorem MX.addTold (h : MX w B mb s td lk M kv) {w1 w2 : World} {v' : Value} {v : Vd} (hb : Below w.heap.size w w1) (hown : w2.ownsRow B 29 3 v' (td.length + 1) (td.flatMap vcs ++ vcs v)) (hg : w1.grownBy w2 s.tv.ownBlock) :
    MX (w2.setCell ⟨mb, 51, none⟩ v') B mb { s with tv := v' } (td ++ [v]) lk M kv ∧ Kept (Sx s mb M) w (w2.setCell ⟨mb, 51, none⟩ v') := by
  obtain ⟨cs, hbm, -⟩ := h.m.ex
  have hk12 : Kept (fun k => s.tv.ownBlock = some k) w1 w2 := (Kept.refl _ w1).grown hg (fun _ _ e => e)
  have hk : Kept (fun k => s.tv.ownBlock = some k) w w2 := ((Kept.ofBelow hb).mono (S' := fun k => s.tv.ownBlock = some k) (fun _ _ e => e.elim)).trans hk12 (fun _ _ e => e)
  have hnm : ¬ s.tv.ownBlock = some mb := fun e => owns_blk h.td e hbm (fun cs e => by injection e with _ e; cases e)
  have hm2 := h.m.kept hk hnm
  have hks : Kept (fun k => k = mb) w2 (w2.setCell ⟨mb, 51, none⟩ v') := (Kept.refl (fun k => k = mb) w2).setCell (p := ⟨mb, 51, none⟩) (fun _ => rfl) _
  obtain ⟨cs2, hbm2, -⟩ := hm2.ex
  have hlk2 := ownsRow_kept h.lk hk (fun k e e2 => owns_ne h.lk h.td (by decide) k e e2)
  refine ⟨⟨hm2.setTold v', h.ge, ?_, ?_, h.wv, ?_, h.gm⟩, ?_⟩
  · have e1 : (td ++ [v]).flatMap vcs = td.flatMap vcs ++ vcs v := by rw [List.flatMap_append]; simp
    have e2 : (td ++ [v]).length = td.length + 1 := by simp
    rw [e1, e2]
    exact ownsRow_kept hown hks (fun k e e2 => owns_blk hown (k := mb) (o := .cells cs2 77 (0, 0)) (by rw [← e2]; exact e) hbm2 (fun cs e => by injection e with _ e; cases e))
  · exact ownsRow_kept hlk2 hks (fun k e e2 => owns_blk hlk2 (k := mb) (o := .cells cs2 77 (0, 0)) (by rw [← e2]; exact e) hbm2 (fun cs e => by injection e with _ e; cases e))
  · obtain ⟨es, c, g⟩ := h.mg
    have g2 := g.kept hk (fun e => owns_blk h.td e g.blk (fun cs e => by cases e))
    exact ⟨es, c, g2.kept hks (fun e => by have h1 := g2.blk; rw [e, hbm2] at h1; cases h1)⟩
  · exact (ksx (s := s) (mb := mb) (M := M) hk (fun k e => .inr (.inr (.inl e)))).trans hks (fun _ _ e => .inl e)
end
end Go.Proofs.YthcoigbkdbkojabGreat
