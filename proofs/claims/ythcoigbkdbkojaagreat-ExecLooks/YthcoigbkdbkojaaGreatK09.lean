import Derived.Test.YthcoigbkdbkojaaGreatK08
namespace Go.Proofs.YthcoigbkdbkojaaGreat
open Go.RowKit
open V (hp_new hp_lt hp_below hp_alloc)

section
variable {w w' : World} {B mb M : Nat} {s : Ms} {td : List Vd} {lk : List (ByteArray × ByteArray)} {kv : List (ByteArray × Value)}

theorem did_set1 (h : MX w B mb s td lk M kv) (a : Nat) (ha : a < 16) (v : Vd) : ∃ W, W = (((w.setCell ⟨mb, 3 + a * 3, none⟩ (.int .i64 v.k)).setCell ⟨mb, 3 + a * 3 + 1, none⟩ (.int .i64 v.i)).setCell ⟨mb, 3 + a * 3 + 2, none⟩ (.string v.t)) ∧ MX W B mb (s.set a v) td lk M kv ∧ Kept (fun k => k = mb) w W := by
  refine ⟨_, rfl, ?_⟩
  have h1 := h.m.setReg a (by omega) (by omega) v
  rw [Int.toNat_natCast] at h1
  have hk : Kept (fun k => k = mb) w (((w.setCell ⟨mb, 3 + a * 3, none⟩ (.int .i64 v.k)).setCell ⟨mb, 3 + a * 3 + 1, none⟩ (.int .i64 v.i)).setCell ⟨mb, 3 + a * 3 + 2, none⟩ (.string v.t)) :=
    (((Kept.refl (fun k => k = mb) w).setCell (p := ⟨mb, 3 + a * 3, none⟩) (fun _ => rfl) _).setCell (p := ⟨mb, 3 + a * 3 + 1, none⟩) (fun _ => rfl) _).setCell (p := ⟨mb, 3 + a * 3 + 2, none⟩) (fun _ => rfl) _
  exact ⟨h.own h1 hk rfl rfl rfl, hk⟩

set_option maxRecDepth 100000 in
set_option maxHeartbeats 3200000 in
theorem get_m (x : Ins) (key : ByteArray) (p : Nat) (g : ByteArray → Option V.Pd) (n B0 : Nat) (v : V.Pd) (h : MX w B mb s td lk M kv) (a0 : 0 ≤ x.a) (a1 : x.a < 16) (b0 : 0 ≤ x.b) (b1 : x.b < 16) (hr : s.rg x.b = ⟨2, 0, key⟩) (hz : key.size ≤ 256) (hi : isKeyB key = true) (hl : lk.length ≤ 1000) (hv : s.vw = .iface 35 (.pointer (some ⟨p, 0, none⟩))) (hp : ∀ W, Below B w W → V.PV W p g false n B0) (hn : key ∉ kv.map Prod.fst) (hg : g key = some v) :
    Calls Tryz.prog 86 #[.pointer (some ⟨mb, 0, none⟩), x.val] w fun e w' => ∃ v', Did B w mb s (({ s with lv := v' } : Ms).set x.a ⟨v.n, v.a, v.ao⟩) td (lk ++ [(key, key)]) M kv e w' := by
  obtain ⟨op, a, b, c, n', vk, vi, vt⟩ := x
  dsimp only at a0 a1 b0 b1 hr ⊢
  obtain ⟨a, rfl⟩ := Int.eq_ofNat_of_zero_le a0
  have ha2 : a < 16 := by omega
  have hml := h.m.lt
  have hb0 : Below w.heap.size w (w.alloc (io op a b c n' vk vi vt)) := below1 w _
  have hnl : ¬ s.lv.ownBlock = some w.heap.size := fun e => by have := (h.lk.lt _ e).2; omega
  have HK := hid (key_ok b key (h.below hb0) b0 b1 hr hz hi)
  obtain ⟨-, y1, -⟩ := cells8 (hp_new w (io op a b c n' vk vi vt))
  have hy1 := World.block_lt_of_cell? _ _ y1
  have HX := hid (And.intro h (And.intro hb0 (And.intro hv (And.intro hp (And.intro hn (And.intro hg hnl))))))
  clear h hb0 hv hp hg hi hr hnl
  unfold Ins.val
  go_enter Tryz.func86, Tryz.ntmps86
  go_wp2_with (first
    | (go_at_call 121
       refine HK.out.mono ?_
       rintro e w1 ⟨rfl, hb1⟩
       have hx1 := HX.out.1.below (below_on HX.out.2.1 hb1)
       have hl1 := hx1.lookNo key HX.out.2.2.2.2.1
       obtain ⟨-, -, -, -, c4, -⟩ := hx1.m.cells
       rw [HX.out.1.wv] at c4
       have hx2 := hx1.below (below1 w1 (vo 0 0 emp))
       have HL := hid (look_m key key hx2 (by omega) (by omega) (by omega))
       have z1 := (hb1.cell hy1).trans y1
       have H1 := hid (And.intro hb1 hx2)
       clear hb1 hx1 hx2)
    | (go_at_call 122
       refine HL.out.mono ?_
       rintro e w3 ⟨rfl, ⟨v', hx3⟩, hb3, hk3⟩
       have hw1 := World.block_lt_of_cell? _ _ z1
       have z3 := hk3.cell (((below1 w1 (vo 0 0 emp)).cell hw1).trans z1) (fun e => by
         rcases e with e | e
         · dsimp only at e; omega
         · exact HX.out.2.2.2.2.2.2 e)
       have hbw := ((below_on HX.out.2.1 H1.out.1).mono HX.out.1.bB)
       have hbw3 : Below B w w3 := (hbw.alloc (Nat.le_trans HX.out.1.bB (below_on HX.out.2.1 H1.out.1).size) (vo 0 0 emp)).trans hb3
       have H3 := hid (And.intro hx3 (And.intro hbw3 hk3))
       clear hx3 hb3 hk3 hbw hbw3))
  have hx3d := H3.out.1.below ((Below.refl _ w3).drew)
  have HSE := hid (seen_m key p g n B0 v hx3d HX.out.2.2.1 (HX.out.2.2.2.1 _ (H3.out.2.1.drew)) HX.out.2.2.2.2.1 HX.out.2.2.2.2.2.1)
  have z3d := (show w3.drew.cell? ⟨w.heap.size, 1, none⟩ = some (.int .i64 a) from z3)
  have hne : mb ≠ w.heap.size := by omega
  clear hx3d z1 y1 hl1 c4
  go_region_held3 (fun wx => wx.cell? ⟨w.heap.size, 1, none⟩ = some (.int .i64 a))
    (first | exact z3d | exact z4 | (rw [V.cs_blk hne, V.cs_blk hne, V.cs_blk hne]; exact z4))
    (first
    | (go_at_call 123
       refine HSE.out.mono ?_
       rintro e w4 ⟨rfl, hb4'⟩
       have hb4 := (show Below w3.heap.size w3 w4 from ⟨hb4'.os, hb4'.tape, hb4'.output, hb4'.size, hb4'.block⟩)
       have hx4 := H3.out.1.below hb4
       have z4 := (hb4.cell (World.block_lt_of_cell? _ _ z3)).trans z3
       obtain ⟨s0, s1, s2⟩ := hx4.m.reg a a0 a1
       rw [Int.toNat_natCast] at s0 s1 s2
       have hfz := hx4.m.free
       have H4 := hid (And.intro hx4 hb4)
       clear hb4 hb4' hx4))
  all_goals
    go_end0
    obtain ⟨W, rfl, d2, d3⟩ := did_set1 H4.out.1 a ha2 ⟨v.n, v.a, v.ao⟩
    have q1 : Kept (Sx s mb M) w (w1.alloc (vo 0 0 emp)) := bsx ((below_on HX.out.2.1 H1.out.1).alloc (below_on HX.out.2.1 H1.out.1).size _)
    have q2 : Kept (Sx s mb M) w w3 := q1.trans H3.out.2.2 (fun k _ e => e.elim .inl (fun e => .inr (.inr (.inr e))))
    have q4 : Kept (Sx s mb M) w w4 := q2.trans (Kept.ofBelow H4.out.2) (fun _ _ e => e.elim)
    exact ⟨v', rfl, d2, q4.trans d3 (fun _ _ e => .inl e)⟩

end

end Go.Proofs.YthcoigbkdbkojaaGreat

namespace Go.Proofs.YthcoigbkdbkojaaGreat
open Go.RowKit Go.MapKept
open V (hp_new hp_lt hp_below hp_alloc)

section
variable {w w' : World} {B mb M : Nat} {s : Ms} {td : List Vd} {lk : List (ByteArray × ByteArray)} {kv : List (ByteArray × Value)}

/-- A key more is written. -/
theorem MX.addKey (h : MX w B mb s td lk M kv) {es : Array MapEntry} {c : Nat} (g : MG KS w M kv es c) {w2 : World} (key : ByteArray) (v : Value) (hn : key ∉ kv.map Prod.fst) (hb : w2.heap[M]? = some (.map (es.push { key := .string key, val := v, born := c }) (c + 1))) (hk : Kept (fun k => k = M) w w2) : MX w2 B mb s td lk M (kv ++ [(key, v)]) := by
  obtain ⟨cs, hbm, -⟩ := h.m.ex
  have hnm : ¬ mb = M := fun e => by have h1 := g.blk; rw [← e, hbm] at h1; cases h1
  refine ⟨h.m.kept hk hnm, h.ge, ?_, ?_, h.wv, ⟨_, _, g.push key v (lookup_none_of hn) hb⟩, h.gm⟩
  · exact ownsRow_kept h.td hk (fun k e e2 => owns_blk h.td (k := M) (by rw [← e2]; exact e) g.blk (fun cs e => by cases e))
  · exact ownsRow_kept h.lk hk (fun k e e2 => owns_blk h.lk (k := M) (by rw [← e2]; exact e) g.blk (fun cs e => by cases e))

set_option maxRecDepth 100000 in
set_option maxHeartbeats 3200000 in
theorem put_m (x : Ins) (key : ByteArray) (h : MX w B mb s td lk M kv) (a0 : 0 ≤ x.a) (a1 : x.a < 16) (b0 : 0 ≤ x.b) (b1 : x.b < 16) (hr : s.rg x.a = ⟨2, 0, key⟩) (hz : key.size ≤ 256) (hi : isKeyB key = true) (hn : key ∉ kv.map Prod.fst) :
    Calls Tryz.prog 87 #[.pointer (some ⟨mb, 0, none⟩), x.val] w (Did B w mb s s td lk M (kv ++ [(key, (s.rg x.b).val)])) := by
  obtain ⟨op, a, b, c, n', vk, vi, vt⟩ := x
  dsimp only at a0 a1 b0 b1 hr ⊢
  obtain ⟨b, rfl⟩ := Int.eq_ofNat_of_zero_le b0
  have hml := h.m.lt
  have hb0 : Below w.heap.size w (w.alloc (io op a b c n' vk vi vt)) := below1 w _
  have hx0 := h.below hb0
  have HK := hid (fun W (hb : Below (w.alloc (io op a b c n' vk vi vt)).heap.size (w.alloc (io op a b c n' vk vi vt)) W) => key_ok a key (hx0.below hb) a0 a1 hr hz hi)
  obtain ⟨-, y1, y2, -⟩ := cells8 (hp_new w (io op a b c n' vk vi vt))
  have HS := hid (show ∀ W, Below (w.alloc (io op a b c n' vk vi vt)).heap.size (w.alloc (io op a b c n' vk vi vt)) W → W.cell? ⟨w.heap.size, 1, none⟩ = some (.int .i64 a) ∧ W.cell? ⟨w.heap.size, 2, none⟩ = some (.int .i64 b) ∧ W.cell? ⟨mb, 52, none⟩ = some (.map (some M)) ∧ W.cell? ⟨mb, 3 + b * 3, none⟩ = some (.int .i64 (s.rg b).k) ∧ W.cell? ⟨mb, 3 + b * 3 + 1, none⟩ = some (.int .i64 (s.rg b).i) ∧ W.cell? ⟨mb, 3 + b * 3 + 2, none⟩ = some (.string (s.rg b).t) from fun W hb => by
    have hxW := hx0.below hb
    obtain ⟨-, -, -, -, c4, -⟩ := hxW.m.cells
    rw [h.wv] at c4
    obtain ⟨r0, r1, r2⟩ := hxW.m.reg b b0 b1
    rw [Int.toNat_natCast] at r0 r1 r2
    exact ⟨(hb.cell (World.block_lt_of_cell? _ _ y1)).trans y1, (hb.cell (World.block_lt_of_cell? _ _ y2)).trans y2, c4, r0, r1, r2⟩)
  obtain ⟨es, cc, g⟩ := h.mg
  have HX := hid (And.intro h (And.intro hx0 (And.intro g (And.intro hb0 hn))))
  obtain ⟨t1, t2, t3, t4, t5, t6⟩ := HS.out _ ((Below.refl _ _).drew)
  clear h hx0 g hb0 hn hr hi y1 y2
  unfold Ins.val
  go_enter Tryz.func87, Tryz.ntmps87
  go_wp2_with fail
  go_region_law
    (first
      | (go_simp; go_wp2_with (go_at_call 121; refine (HK.out _ ((Below.refl _ _).drew)).mono ?_; rintro e w1 ⟨rfl, hb1'⟩; have hb1 := (show Below (w.alloc (io op a b c n' vk vi vt)).heap.size (w.alloc (io op a b c n' vk vi vt)) w1 from ⟨hb1'.os, hb1'.tape, hb1'.output, hb1'.size, hb1'.block⟩); obtain ⟨k1, k2, k3, k4, k5, k6⟩ := HS.out _ hb1; have HB1 := hid (below_on HX.out.2.2.2.1 hb1); have hup := upd_new Tryz.underlying79 Tryz.underlying9 (HX.out.2.2.1.below HB1.out).blk (key_str key) (vl (s.rg b).k (s.rg b).i (s.rg b).t) ((HX.out.2.2.1).noKey key (lookup_none_of HX.out.2.2.2.2)); clear hb1 hb1')))
  all_goals
    go_end0
    have hx1 := HX.out.1.below HB1.out
    have g1 := HX.out.2.2.1.below HB1.out
    have qk : Kept (fun k => k = M) w1 (puts w1 M (.map (es.push { key := .string key, val := vl (s.rg b).k (s.rg b).i (s.rg b).t, born := cc }) (cc + 1))) := (Kept.refl _ w1).grown (puts_grown _ _ _) (fun k _ e => by injection e with e; exact e.symm)
    have q1 := hx1.addKey g1 key (vl (s.rg b).k (s.rg b).i (s.rg b).t) HX.out.2.2.2.2 (puts_same g1.blk) qk
    exact ⟨rfl, q1, (bsx HB1.out).trans qk (fun _ _ e => .inr (.inl e))⟩

end

end Go.Proofs.YthcoigbkdbkojaaGreat

namespace Go.Proofs.YthcoigbkdbkojaaGreat
open Go.RowKit Go.MapKept
open V (hp_new hp_lt hp_below hp_alloc)

set_option maxRecDepth 100000 in
set_option maxHeartbeats 1600000 in
theorem copied_m (k i : Int) (t : ByteArray) (ht : t.size ≤ 281474976710656) (w : World) : Calls Tryz.prog 101 #[vl k i t] w fun e w' => e = .returned (vl k i t) ∧ Below w.heap.size w w' := by
  have hc := fun W => strClone_any t W ht
  have HC := hid hc
  have hb2 : Below w.heap.size w ((w.alloc (vo k i t)).alloc (vo 0 0 emp)) := below2 w _ _
  have HB := hid hb2
  clear hc hb2
  go_enter Tryz.func101, Tryz.ntmps101
  go_wp2_with (first
    | (go_at_call 70
       refine (HC.out _).mono ?_
       rintro e w1 ⟨rfl, hb1⟩
       have hr1 := blk_of hb1 (two1 w (vo k i t) (vo 0 0 emp)) (by simp; omega)
       have hr2 := blk_of hb1 (two2 w (vo k i t) (vo 0 0 emp)) (by simp)
       have hz1 := hp_lt hr1
       have hz2 := hp_lt hr2
       obtain ⟨k0, k1, k2, k3⟩ := vfacts hr1
       obtain ⟨l0, l1, l2, l3⟩ := vfacts hr2
       have H1 := hid (And.intro hr2 (below_on HB.out hb1))
       clear hr1 hr2 hb1))
  refine bodyPost_ret (ret_agg Tryz.results101 rfl (set3 (V.hp_set H1.out.1 (p := ⟨w.heap.size, 2, none⟩) (by simp) _) _ _ _)) rfl ?_
  exact ⟨rfl, (((H1.out.2.setCell (p := ⟨w.heap.size, 2, none⟩) (Nat.le_refl _) _).setCell (p := ⟨w.heap.size + 1, 0, none⟩) (Nat.le_succ _) _).setCell (p := ⟨w.heap.size + 1, 1, none⟩) (Nat.le_succ _) _).setCell (p := ⟨w.heap.size + 1, 2, none⟩) (Nat.le_succ _) _⟩

section
variable {w w' : World} {B mb M : Nat} {s : Ms} {td : List Vd} {lk : List (ByteArray × ByteArray)} {kv : List (ByteArray × Value)}

/-- A value more is told. -/
theorem MX.addTold (h : MX w B mb s td lk M kv) {w1 w2 : World} {v' : Value} {v : Vd} (hb : Below w.heap.size w w1) (hown : w2.ownsRow B 28 3 v' (td.length + 1) (td.flatMap vcs ++ vcs v)) (hg : w1.grownBy w2 s.tv.ownBlock) :
    MX (w2.setCell ⟨mb, 51, none⟩ v') B mb { s with tv := v' } (td ++ [v]) lk M kv ∧ Kept (Sx s mb M) w (w2.setCell ⟨mb, 51, none⟩ v') := by
  obtain ⟨cs, hbm, -⟩ := h.m.ex
  have hk12 : Kept (fun k => s.tv.ownBlock = some k) w1 w2 := (Kept.refl _ w1).grown hg (fun _ _ e => e)
  have hk : Kept (fun k => s.tv.ownBlock = some k) w w2 := ((Kept.ofBelow hb).mono (S' := fun k => s.tv.ownBlock = some k) (fun _ _ e => e.elim)).trans hk12 (fun _ _ e => e)
  have hnm : ¬ s.tv.ownBlock = some mb := fun e => owns_blk h.td e hbm (fun cs e => by injection e with _ e; cases e)
  have hm2 := h.m.kept hk hnm
  have hks : Kept (fun k => k = mb) w2 (w2.setCell ⟨mb, 51, none⟩ v') := (Kept.refl (fun k => k = mb) w2).setCell (p := ⟨mb, 51, none⟩) (fun _ => rfl) _
  obtain ⟨cs2, hbm2, -⟩ := hm2.ex
  have hlk2 := ownsRow_kept h.lk hk (fun k e e2 => owns_ne h.lk h.td (by decide) k e e2)
  refine ⟨⟨hm2.setTold v', h.ge, ?_, ?_, h.wv, ?_, h.gm⟩, ?_⟩
  · have e1 : (td ++ [v]).flatMap vcs = td.flatMap vcs ++ vcs v := by rw [List.flatMap_append]; simp
    have e2 : (td ++ [v]).length = td.length + 1 := by simp
    rw [e1, e2]
    exact ownsRow_kept hown hks (fun k e e2 => owns_blk hown (k := mb) (o := .cells cs2 82 (0, 0)) (by rw [← e2]; exact e) hbm2 (fun cs e => by injection e with _ e; cases e))
  · exact ownsRow_kept hlk2 hks (fun k e e2 => owns_blk hlk2 (k := mb) (o := .cells cs2 82 (0, 0)) (by rw [← e2]; exact e) hbm2 (fun cs e => by injection e with _ e; cases e))
  · obtain ⟨es, c, g⟩ := h.mg
    have g2 := g.kept hk (fun e => owns_blk h.td e g.blk (fun cs e => by cases e))
    exact ⟨es, c, g2.kept hks (fun e => by have h1 := g2.blk; rw [e, hbm2] at h1; cases h1)⟩
  · exact (ksx (s := s) (mb := mb) (M := M) hk (fun k e => .inr (.inr (.inl e)))).trans hks (fun _ _ e => .inl e)

end

end Go.Proofs.YthcoigbkdbkojaaGreat

namespace Go.Proofs.YthcoigbkdbkojaaGreat
open Go.RowKit Go.MapKept
open V (hp_new hp_lt hp_below hp_alloc)

theorem ones3 (a b c : Value) (h1 : a.oneCell' = true) (h2 : b.oneCell' = true) (h3 : c.oneCell' = true) : ∀ u ∈ (#[a, b, c] : Array Value).toList, u.oneCell' = true := by
  intro u hu
  simp at hu
  rcases hu with rfl | rfl | rfl <;> assumption

section
variable {w w' : World} {B mb M : Nat} {s : Ms} {td : List Vd} {lk : List (ByteArray × ByteArray)} {kv : List (ByteArray × Value)}

set_option maxRecDepth 100000 in
set_option maxHeartbeats 3200000 in
theorem tell_m (x : Ins) (h : MX w B mb s td lk M kv) (a0 : 0 ≤ x.a) (a1 : x.a < 16) (hl : td.length < 64) (hz : (s.rg x.a).t.size ≤ 281474976710656) :
    Calls Tryz.prog 98 #[.pointer (some ⟨mb, 0, none⟩), x.val] w fun e w' => ∃ v', Did B w mb s { s with tv := v' } (td ++ [s.rg x.a]) lk M kv e w' := by
  obtain ⟨op, a, b, c, n', vk, vi, vt⟩ := x
  dsimp only at a0 a1 hz ⊢
  obtain ⟨a, rfl⟩ := Int.eq_ofNat_of_zero_le a0
  obtain ⟨al, cl, htv⟩ := own_shape h.td
  have hb0 : Below w.heap.size w (w.alloc (io op a b c n' vk vi vt)) := below1 w _
  have hx0 := h.below hb0
  obtain ⟨-, y1, -⟩ := cells8 (hp_new w (io op a b c n' vk vi vt))
  have htd := h.td
  rw [htv] at htd
  have HS := hid (show ∀ W, Below (w.alloc (io op a b c n' vk vi vt)).heap.size (w.alloc (io op a b c n' vk vi vt)) W → W.cell? ⟨w.heap.size, 1, none⟩ = some (.int .i64 a) ∧ W.cell? ⟨mb, 51, none⟩ = some (.slice al td.length cl) ∧ W.cell? ⟨mb, 3 + a * 3, none⟩ = some (.int .i64 (s.rg a).k) ∧ W.cell? ⟨mb, 3 + a * 3 + 1, none⟩ = some (.int .i64 (s.rg a).i) ∧ W.cell? ⟨mb, 3 + a * 3 + 2, none⟩ = some (.string (s.rg a).t) from fun W hb => by
    have hxW := hx0.below hb
    obtain ⟨-, -, -, c3, -, -⟩ := hxW.m.cells
    rw [htv] at c3
    obtain ⟨r0, r1, r2⟩ := hxW.m.reg a a0 a1
    rw [Int.toNat_natCast] at r0 r1 r2
    exact ⟨(hb.cell (World.block_lt_of_cell? _ _ y1)).trans y1, c3, r0, r1, r2⟩)
  have HNM := hid (show ∀ W, Kept (fun k => (Value.slice al td.length cl).ownBlock = some k) w W → Mb W mb s ∧ W.cell? ⟨mb, 51, none⟩ = some (.slice al td.length cl) from fun W hk => by
    obtain ⟨cs, hbm, -⟩ := h.m.ex
    have h2 := h.m.kept hk (fun e => owns_blk htd e hbm (fun cs e => by injection e with _ e; cases e))
    obtain ⟨-, -, -, c, -, -⟩ := h2.cells
    rw [htv] at c
    exact ⟨h2, c⟩)
  have hne : ¬ (td.length : Int) = 64 := by omega
  have HC := hid (fun W => copied_m (s.rg a).k (s.rg a).i (s.rg a).t hz W)
  have HX := hid (And.intro h (And.intro hb0 (And.intro htv htd)))
  obtain ⟨t1, t2, t3, t4, t5⟩ := HS.out _ (Below.refl _ _)
  clear h hx0 hb0 htd htv y1
  unfold Ins.val
  go_enter Tryz.func98, Tryz.ntmps98
  go_upto_region 3 with fail
  clear t1 t2 t3 t4 t5
  obtain ⟨t1, t2, t3, t4, t5⟩ := HS.out _ ((Below.refl _ _).drew)
  go_region_law
    (first
      | (refine step_append_rf _ (by rfl) (.tmp 15) (.tmp 24) 26 28 _ 3 32 (by rfl) Tryz.underlying26 Tryz.info28 rfl (by omega) B (.slice al td.length cl) td.length (td.flatMap vcs) (by rfl) (HO.out.alloc _) (.slice (some ⟨w2.heap.size, 0, none⟩) 1 1) 1 [.int .i64 (s.rg a).k, .int .i64 (s.rg a).i, .string (s.rg a).t] (by rfl) (rf_new w2 28 #[.int .i64 (s.rg a).k, .int .i64 (s.rg a).i, .string (s.rg a).t] 3 rfl (ones3 _ _ _ rfl rfl rfl)) (by omega) (by unfold maxLen; omega) HZ.out ?_; intro a9 c9 w9 hown hgr hob; have HGR := hid (And.intro hown.out hgr.out); have hm9 := HNM.out w9 (((Kept.ofBelow HB2.out).mono (S' := fun k => (Value.slice al td.length cl).ownBlock = some k) (fun _ _ e => e.elim)).trans (((Kept.refl _ w2).alloc _).grown hgr.out (fun _ _ e => e)) (fun _ _ e => e)); have k9 := hm9.2; have hfz9 := hm9.1.free; have hml9 := hm9.1.lt; clear hown hgr hob hm9)
      | (go_simp; go_wp2_with (go_at_call 101; refine (HC.out _).mono ?_; rintro e w2 ⟨rfl, hb2'⟩; have hb2 := (show Below (w.alloc (io op a b c n' vk vi vt)).heap.size (w.alloc (io op a b c n' vk vi vt)) w2 from ⟨hb2'.os, hb2'.tape, hb2'.output, hb2'.size, hb2'.block⟩); obtain ⟨k1, k2, k3, k4, k5⟩ := HS.out _ hb2; have HB2 := hid (below_on HX.out.2.1 hb2); have HO := hid (ownsRow_kept HX.out.2.2.2 (Kept.ofBelow HB2.out) (fun _ _ e => e)); have HZ := hid (show B ≤ (w2.alloc (.cells #[.int .i64 (s.rg a).k, .int .i64 (s.rg a).i, .string (s.rg a).t] 28)).heap.size by have h1 := HX.out.1.bB; have h2 := HB2.out.size; simp; omega); obtain ⟨k6, k7, k8, k9', k10⟩ := HS.out (w2.alloc (.cells #[.int .i64 (s.rg a).k, .int .i64 (s.rg a).i, .string (s.rg a).t] 28)) (hb2.alloc hb2.size _); clear hb2 hb2')))
  all_goals
    go_end0
    have ha := HX.out.1.addTold (w1 := w2.alloc (.cells #[.int .i64 (s.rg a).k, .int .i64 (s.rg a).i, .string (s.rg a).t] 28)) (v := s.rg a) (HB2.out.alloc HB2.out.size _) HGR.out.1 (by rw [HX.out.2.2.1]; exact HGR.out.2)
    exact ⟨_, rfl, ha.1, ha.2⟩

end

end Go.Proofs.YthcoigbkdbkojaaGreat

namespace Go.Proofs.YthcoigbkdbkojaaGreat
open Go.RowKit
open V (hp_new hp_lt hp_below hp_alloc)

theorem Rf.elem {w : World} {α : Type} {f : α → List Value} {m : Nat} {v : Value} {xs : List α} (hf : ∀ x, (f x).length = m) (hm : 0 < m) (h : Rf w m v xs.length (xs.flatMap f)) (k : Nat) (hk : k < xs.length) :
    ∃ b off cap, v = .slice (some ⟨b, off, none⟩) xs.length cap ∧ xs.length ≤ cap ∧ cap ≤ maxLen ∧ ∀ c u, (f xs[k])[c]? = some u → w.cell? ⟨b, off + k * m + c, none⟩ = some u := by
  obtain ⟨b, off, cap, rfl, h1, h2, h3⟩ := h.lits (by omega) hm
  refine ⟨b, off, cap, rfl, h1, h2, fun c u hu => ?_⟩
  have hc : c < m := by
    rcases Nat.lt_or_ge c m with h | h
    · exact h
    · rw [List.getElem?_eq_none (by rw [hf]; exact h)] at hu
      cases hu
  have := h3 (k * m + c) u (by rw [flat_get f m hf _ _ _ hc]; simp [hk, hu])
  rwa [← Nat.add_assoc] at this

/-- An entry's cells. -/
def ecs (x : ByteArray × Vd) : List Value := [.string x.1, .int .i64 x.2.k, .int .i64 x.2.i, .string x.2.t]
abbrev pdOf (v : Vd) : V.Pd := ⟨v.k, v.i, v.t⟩
/-- What a store of entries has. -/
def stG (l : List (ByteArray × Vd)) : ByteArray → Option V.Pd := l.foldl (fun g x => V.updG g x.1 (pdOf x.2)) (fun _ => none)

theorem stG_succ (l : List (ByteArray × Vd)) (k : Nat) (h : k < l.length) : stG (l.take (k + 1)) = V.updG (stG (l.take k)) l[k].1 (pdOf l[k].2) := by
  unfold stG
  rw [List.take_succ_eq_append_getElem h, List.foldl_append]
  rfl

set_option maxRecDepth 100000 in
set_option maxHeartbeats 3200000 in
theorem store_any (v : Value) (pa : Option Addr) (pn pc : Nat) (l : List (ByteArray × Vd)) (w : World) (h : Rf w 4 v l.length (l.flatMap ecs)) (hl : l.length ≤ 1000) (hk : ∀ x ∈ l, x.1.size ≤ 1000000) :
    Calls Tryz.prog 10 #[.agg #[v, .slice pa pn pc]] w fun e w' => ∃ p, e = .returned (.pointer (some ⟨p, 0, none⟩)) ∧ V.PV w' p (stG l) false l.length (w.heap.size + 1) ∧ Below w.heap.size w w' := by
  obtain ⟨ao, cap, rfl, -, -⟩ := h.shape
  have hb0 : Below w.heap.size w (w.alloc (.cells #[.slice ao l.length cap, .slice pa pn pc] 33)) := below1 w _
  have HN := hid (V.pnew (w.alloc (.cells #[.slice ao l.length cap, .slice pa pn pc] 33)))
  have H := hid (And.intro h (And.intro hb0 hk))
  clear h hb0 hk
  go_enter Tryz.func10, Tryz.ntmps10
  go_wp2_with (
    go_at_call 25
    refine HN.out.mono ?_
    rintro e w1 ⟨rfl, hq1⟩
    have H1 := hid hq1.out
    clear hq1)
  have es : (w.alloc (.cells #[.slice ao l.length cap, .slice pa pn pc] 33)).heap.size = w.heap.size + 1 := by simp
  rw [es] at H1
  have HC := hid (show ∀ W, Below (w.heap.size + 1) w1 W → W.cell? ⟨w.heap.size, 0, none⟩ = some (.slice ao l.length cap) ∧ Below w.heap.size w W from fun W hb => by
    have hw1 : w1.heap[w.heap.size]? = some (.cells #[.slice ao l.length cap, .slice pa pn pc] 33) := blk_of H1.out.2 (hp_new w _) (Nat.lt_succ_self _)
    have hW := blk_of hb hw1 (Nat.lt_succ_self _)
    exact ⟨by rw [cell_of_row _ _ _ _ _ _ hW]; rfl, (H.out.2.1.trans (H1.out.2.mono (Nat.le_succ _))).trans (hb.mono (Nat.le_succ _))⟩)
  go_loopw [4] (fun ix wr => ∃ k : Nat, k ≤ l.length ∧ ix = .int .i64 k ∧ Hid (V.PV wr (w.heap.size + 1) (stG (l.take k)) false k (w.heap.size + 1) ∧ Below (w.heap.size + 1) w1 wr)) (fun ix _ => l.length - (intOf ix).toNat)
  case atStart => exact ⟨0, Nat.zero_le _, by go_num, hid ⟨H1.out.1, Below.refl _ _⟩⟩
  case round =>
    obtain ⟨k, hk, rfl, HR⟩ := hrel
    obtain ⟨b0, hbw⟩ := HC.out wr HR.out.2
    by_cases hlt : k < l.length
    · have i1 : (k : Int) < (l.length : Int) := by omega
      obtain ⟨bb, off, cap', e, -, -, hcell⟩ := Rf.elem (f := ecs) (fun _ => rfl) (by omega) H.out.1 k hlt
      injection e with e1 e2 e3
      subst e1 e3
      clear e2
      have hsz := H.out.2.2 l[k] (List.getElem_mem hlt)
      have hsu := stG_succ l k hlt
      obtain ⟨x, hx⟩ : ∃ x, x = l[k] := ⟨_, rfl⟩
      rw [← hx] at hcell hsz hsu
      obtain ⟨key, vd⟩ := x
      have HS := hid (show ∀ W, Below (w.heap.size + 1) w1 W → W.cell? ⟨w.heap.size, 0, none⟩ = some (.slice (some ⟨bb, off, none⟩) l.length cap) ∧ W.cell? ⟨bb, off + k * 4, none⟩ = some (.string key) ∧ W.cell? ⟨bb, off + k * 4 + 1, none⟩ = some (.int .i64 vd.k) ∧ W.cell? ⟨bb, off + k * 4 + 1 + 1, none⟩ = some (.int .i64 vd.i) ∧ W.cell? ⟨bb, off + k * 4 + 1 + 2, none⟩ = some (.string vd.t) from fun W hb => by
        obtain ⟨q0, q1⟩ := HC.out W hb
        have cc : ∀ c u, (ecs (key, vd))[c]? = some u → W.cell? ⟨bb, off + k * 4 + c, none⟩ = some u := fun c u hu => (q1.cell (World.block_lt_of_cell? _ _ (hcell c u hu))).trans (hcell c u hu)
        exact ⟨q0, cc 0 _ rfl, cc 1 _ rfl, cc 2 _ rfl, cc 3 _ rfl⟩)
      have HP := hid (V.pput (w.heap.size + 1) key (pdOf vd) _ false k (w.heap.size + 1) wr.drew (HR.out.1.below ((Below.refl _ wr).drew)) (by have := HR.out.2.size; have := H1.out.2.size; show _ ≤ wr.heap.size; omega) (by omega) (by dsimp only at hsz; omega))
      have HSU := hid hsu
      clear hcell hsz hsu hx
      go_upto_region 5 with fail
      go_region_held3 (fun wx => wx.cell? ⟨w.heap.size, 0, none⟩ = some (.slice (some ⟨bb, off, none⟩) l.length cap) ∧ wx.cell? ⟨bb, off + k * 4, none⟩ = some (.string key) ∧ wx.cell? ⟨bb, off + k * 4 + 1, none⟩ = some (.int .i64 vd.k) ∧ wx.cell? ⟨bb, off + k * 4 + 1 + 1, none⟩ = some (.int .i64 vd.i) ∧ wx.cell? ⟨bb, off + k * 4 + 1 + 2, none⟩ = some (.string vd.t))
        (first | exact HS.out _ HR.out.2.drew | exact HS.out _ H2.out.2)
        (first
        | (go_at_call 26
           refine HP.out.mono ?_
           rintro e w2 ⟨rfl, hp2, hk2⟩
           have H2 := hid (And.intro hp2 (show Below (w.heap.size + 1) w1 w2 from HR.out.2.drew.trans ((kept_v hk2).below (by have := HR.out.2.size; have := H1.out.2.size; show _ ≤ wr.heap.size; omega) (fun k hk e => by omega))))
           clear hp2 hk2))
      go_wp2_with fail
      go_roundw
      case rel => exact ⟨k + 1, by omega, by go_num, hid ⟨by rw [HSU.out]; exact H2.out.1, H2.out.2⟩⟩
      case measure => simp [intOf]; omega
    · obtain rfl : l.length = k := by omega
      have i1 : ¬ (l.length : Int) < (l.length : Int) := by omega
      go_wp2_with fail
      go_ret
      have h9 := HR.out.1
      rw [List.take_length] at h9
      exact ⟨_, rfl, h9, hbw⟩

end Go.Proofs.YthcoigbkdbkojaaGreat

namespace Go.Proofs.YthcoigbkdbkojaaGreat
open Go.RowKit Go.MapKept

section
variable {w w' : World} {B mb M : Nat} {s : Ms} {td : List Vd} {lk : List (ByteArray × ByteArray)} {kv : List (ByteArray × Value)}

/-- The table of operations. -/
abbrev opTab : Obj := .cells #[.nilFunc, .func (.func 84) #[] #[], .func (.func 85) #[] #[], .func (.func 86) #[] #[], .func (.func 87) #[] #[], .func (.func 88) #[] #[], .func (.func 89) #[] #[], .func (.func 90) #[] #[], .func (.func 91) #[] #[], .func (.func 92) #[] #[], .func (.func 93) #[] #[], .func (.func 94) #[] #[], .func (.func 95) #[] #[], .func (.func 96) #[] #[], .func (.func 97) #[] #[], .func (.func 98) #[] #[]] 130

theorem optab_any (w : World) : Calls Tryz.prog 55 #[] w fun e w' => e = .returned (.slice (some ⟨w.heap.size, 0, none⟩) 16 16) ∧ w' = w.alloc opTab := by
  go_enter Tryz.func55, Tryz.ntmps55
  go_wp2
  go_ret
  exact ⟨rfl, rfl⟩

end

end Go.Proofs.YthcoigbkdbkojaaGreat
