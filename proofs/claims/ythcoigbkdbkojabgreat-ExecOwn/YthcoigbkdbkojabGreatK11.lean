import Derived.Test.YthcoigbkdbkojabGreatK10
set_option maxRecDepth 100000
namespace Go.Proofs.YthcoigbkdbkojabGreat
open Go.RowKit
open V (hp_new hp_lt hp_below hp_alloc)
theorem insist_ok (w : World) : Calls Tryz.prog 120 #[.int .i64 0] w fun e w' => e = .returned (.tuple #[]) ∧ w' = w := by
  go_enter Tryz.func120, Tryz.ntmps120
  go_wp2
  go_end0
  exact ⟨rfl, rfl⟩
theorem insist_range (w : World) : Calls Tryz.prog 120 #[.int .i64 15] w fun e w' => e = gu 3 ∧ w' = w := by
  go_enter Tryz.func120, Tryz.ntmps120
  go_wp2_with (
    go_at_call 100
    refine (gaveup 3 w).mono ?_
    rintro e w' ⟨rfl, e1⟩
    rw [e1]
    clear e1 w')
  exact ⟨rfl, rfl, rfl⟩
section
variable {w w' : World} {B mb M : Nat} {s : Ms} {td : List Vd} {lk : List (ByteArray × ByteArray)} {kv : List (ByteArray × Value)}
theorem did_set0 (h : MX w B mb s td lk M kv) (a : Nat) (ha : a < 16) (v : Vd) : Did B w mb s (s.set a v) td lk M kv (.returned (.tuple #[])) (((w.setCell ⟨mb, 3 + a * 3, none⟩ (.int .i64 v.k)).setCell ⟨mb, 3 + a * 3 + 1, none⟩ (.int .i64 v.i)).setCell ⟨mb, 3 + a * 3 + 2, none⟩ (.string v.t)).drew := by
  have h1 := h.m.setReg a (by omega) (by omega) v
  rw [Int.toNat_natCast] at h1
  have hk : Kept (fun k => k = mb) w (((w.setCell ⟨mb, 3 + a * 3, none⟩ (.int .i64 v.k)).setCell ⟨mb, 3 + a * 3 + 1, none⟩ (.int .i64 v.i)).setCell ⟨mb, 3 + a * 3 + 2, none⟩ (.string v.t)) :=
    (((Kept.refl (fun k => k = mb) w).setCell (p := ⟨mb, 3 + a * 3, none⟩) (fun _ => rfl) _).setCell (p := ⟨mb, 3 + a * 3 + 1, none⟩) (fun _ => rfl) _).setCell (p := ⟨mb, 3 + a * 3 + 2, none⟩) (fun _ => rfl) _
  have hx := (h.own h1 hk rfl rfl rfl).below ((Below.refl _ _).drew)
  exact ⟨rfl, hx, ksx hk.drew (fun k e => .inl e)⟩
set_option maxHeartbeats 1600000 in
theorem key_ok (r : Int) (t : ByteArray) (h : MX w B mb s td lk M kv) (h0 : 0 ≤ r) (h1 : r < 16) (hk : s.rg r = ⟨2, 0, t⟩) (hz : t.size ≤ 256) (hi : isKeyB t = true) :
    Calls Tryz.prog 91 #[.pointer (some ⟨mb, 0, none⟩), .int .i64 r] w fun e w' => e = .returned (.string t) ∧ Below w.heap.size w w' := by
  obtain ⟨r, rfl⟩ := Int.eq_ofNat_of_zero_le h0
  obtain ⟨r0, r1, r2⟩ := h.m.reg r h0 h1
  rw [Int.toNat_natCast, hk] at r0 r1 r2
  have HK := hid (show ∀ W, Calls Tryz.prog 119 #[vl 2 0 t] W fun e w' => e = .returned (.tuple #[.string t, .int .i64 0]) ∧ Below W.heap.size W w' from fun W => by
    have h2 := key_any 2 0 t W
    unfold keyV at h2
    rw [if_pos ⟨rfl, rfl, hz⟩, if_pos hi] at h2
    exact h2)
  clear h hk hz hi
  go_enter Tryz.func91, Tryz.ntmps91
  go_wp2_with (first
    | (go_at_call 119
       refine (HK.out _).mono ?_
       rintro e w1 ⟨rfl, hb1⟩
       have HB := hid hb1
       clear hb1)
    | (go_at_call 120
       refine (insist_ok _).mono ?_
       rintro e w' ⟨rfl, e1⟩
       rw [e1]
       clear e1 w'))
  go_ret
  exact ⟨rfl, HB.out⟩
set_option maxHeartbeats 1600000 in
theorem need_any (x : Ins) (h : MX w B mb s td lk M kv) (b0 : 0 ≤ x.b) (b1 : x.b < 16) (c0 : 0 ≤ x.c) (c1 : x.c < 16) (q : Bool) (hq : holdsB x.n (cmpV (s.rg x.b).k (s.rg x.b).i (s.rg x.b).t (s.rg x.c).k (s.rg x.c).i (s.rg x.c).t) = q) :
    Calls Tryz.prog 72 #[.pointer (some ⟨mb, 0, none⟩), x.val] w (if q = true then Did B w mb s s td lk M kv else Gave B w mb s td lk M kv 2) := by
  have hh := fun (W : World) (hb : Below w.heap.size w W) => holds_m x (h.below hb) b0 b1 c0 c1
  simp only [hq] at hh
  obtain ⟨op, a, b, c, n, vk, vi, vt⟩ := x
  have HH := hid hh
  have HX := hid (And.intro h (show Below w.heap.size w (w.alloc (io op a b c n vk vi vt)) from below1 w _))
  clear h hh hq b0 b1 c0 c1
  unfold Ins.val at HH ⊢
  dsimp only at HH ⊢
  cases q
  · simp only [Bool.false_eq_true, if_false]
    go_enter Tryz.func72, Tryz.ntmps72
    go_wp2_with (first
      | (go_at_call 99
         refine (HH.out _ HX.out.2).mono ?_
         rintro e w1 ⟨rfl, hb1⟩
         have HB := hid (below_on HX.out.2 hb1)
         clear hb1)
      | (go_at_call 100
         refine (gaveup 2 _).mono ?_
         rintro e w' ⟨rfl, e1⟩
         rw [e1]
         clear e1 w'))
    exact ⟨rfl, rfl, HX.out.1.below HB.out, bsx HB.out⟩
  · simp only [if_true]
    go_enter Tryz.func72, Tryz.ntmps72
    go_wp2_with (first
      | (go_at_call 99
         refine (HH.out _ HX.out.2).mono ?_
         rintro e w1 ⟨rfl, hb1⟩
         have HB := hid (below_on HX.out.2 hb1)
         clear hb1))
    go_end0
    exact ⟨rfl, HX.out.1.below HB.out, bsx HB.out⟩
end
theorem Tryz.info55 : (Tryz.prog.info? 55).map (fun i => (i.zero, i.size, i.bytes)) = some (some (.agg #[.string ⟨#[]⟩, .string ⟨#[]⟩]), 2, 32) := by kernel_rfl
theorem Tryz.info29 : (Tryz.prog.info? 29).map (fun i => (i.zero, i.size, i.bytes)) = some (some (.agg #[.int .i64 0, .int .i64 0, .string ⟨#[]⟩]), 3, 32) := by kernel_rfl
theorem ones2 (a b : Value) (h1 : a.oneCell' = true) (h2 : b.oneCell' = true) : ∀ u ∈ (#[a, b] : Array Value).toList, u.oneCell' = true := by
  intro u hu
  simp at hu
  rcases hu with rfl | rfl <;> assumption
section
variable {w w' : World} {B mb M : Nat} {s : Ms} {td : List Vd} {lk : List (ByteArray × ByteArray)} {kv : List (ByteArray × Value)}
theorem MX.addLook (h : MX w B mb s td lk M kv) {w1 w2 : World} {v' : Value} {f t : ByteArray} (hb : Below w.heap.size w w1) (hown : w2.ownsRow B 55 2 v' (lk.length + 1) (lk.flatMap lcs ++ [.string f, .string t])) (hg : w1.grownBy w2 s.lv.ownBlock) (_hx : ∀ k, v'.ownBlock = some k → s.lv.ownBlock = some k ∨ w.heap.size ≤ k) :
    MX (w2.setCell ⟨mb, 53, none⟩ v') B mb { s with lv := v' } td (lk ++ [(f, t)]) M kv ∧ Below B w (w2.setCell ⟨mb, 53, none⟩ v') ∧ Kept (fun k => k = mb ∨ s.lv.ownBlock = some k) w (w2.setCell ⟨mb, 53, none⟩ v') := by
  obtain ⟨cs, hbm, -⟩ := h.m.ex
  have hk12 : Kept (fun k => s.lv.ownBlock = some k) w1 w2 := (Kept.refl _ w1).grown hg (fun _ _ e => e)
  have hk : Kept (fun k => s.lv.ownBlock = some k) w w2 := ((Kept.ofBelow hb).mono (S' := fun k => s.lv.ownBlock = some k) (fun _ _ e => e.elim)).trans hk12 (fun _ _ e => e)
  have hml := h.m.lt
  have hnm : ¬ s.lv.ownBlock = some mb := fun e => owns_blk h.lk e hbm (fun cs e => by injection e with _ e; cases e)
  have hm2 := h.m.kept hk hnm
  have hks : Kept (fun k => k = mb) w2 (w2.setCell ⟨mb, 53, none⟩ v') := (Kept.refl (fun k => k = mb) w2).setCell (p := ⟨mb, 53, none⟩) (fun _ => rfl) _
  obtain ⟨cs2, hbm2, -⟩ := hm2.ex
  have htd2 := ownsRow_kept h.td hk (fun k e e2 => owns_ne h.td h.lk (by decide) k e e2)
  refine ⟨⟨hm2.setLooks v', h.ge, ?_, ?_, h.wv, ?_, h.gm⟩, ?_, (hk.mono (S' := fun k => k = mb ∨ s.lv.ownBlock = some k) (fun _ _ e => .inr e)).trans hks (fun _ _ e => .inl e)⟩
  · exact ownsRow_kept htd2 hks (fun k e e2 => owns_blk htd2 (k := mb) (o := .cells cs2 77 (0, 0)) (by rw [← e2]; exact e) hbm2 (fun cs e => by injection e with _ e; cases e))
  · have e1 : (lk ++ [(f, t)]).flatMap lcs = lk.flatMap lcs ++ [.string f, .string t] := by rw [List.flatMap_append]; rfl
    have e2 : (lk ++ [(f, t)]).length = lk.length + 1 := by simp
    rw [e1, e2]
    exact ownsRow_kept hown hks (fun k e e2 => owns_blk hown (k := mb) (o := .cells cs2 77 (0, 0)) (by rw [← e2]; exact e) hbm2 (fun cs e => by injection e with _ e; cases e))
  · obtain ⟨es, c, g⟩ := h.mg
    have g2 := g.kept hk (fun e => owns_blk h.lk e g.blk (fun cs e => by cases e))
    exact ⟨es, c, g2.kept hks (fun e => by have h1 := g2.blk; rw [e, hbm2] at h1; cases h1)⟩
  · have hb2 : Below B w w2 := hk.below h.bB (fun k hk e => by have := (h.lk.lt k e).1; omega)
    exact hb2.setCell (p := ⟨mb, 53, none⟩) h.ge _
set_option maxHeartbeats 3200000 in
theorem look_m (f t : ByteArray) (h : MX w B mb s td lk M kv) (hl : lk.length ≤ 1000) (hf : f.size ≤ 1000000) (ht : t.size ≤ 1000000) :
    Calls Tryz.prog 92 #[.pointer (some ⟨mb, 0, none⟩), .string f, .string t] w fun e w' => e = .returned (.tuple #[]) ∧ (∃ v', MX w' B mb { s with lv := v' } td (lk ++ [(f, t)]) M kv) ∧ Below B w w' ∧ Kept (fun k => k = mb ∨ s.lv.ownBlock = some k) w w' := by
  obtain ⟨al, cl, hlv⟩ := own_shape h.lk
  obtain ⟨-, -, -, -, -, c5⟩ := h.m.cells
  rw [hlv] at c5
  have hlk := h.lk
  rw [hlv] at hlk
  have hml := h.m.lt
  have hfz := h.m.free
  have hc1 := fun W => strClone_any f W (by omega)
  have hc2 := fun W => strClone_any t W (by omega)
  have HC1 := hid hc1
  have HC2 := hid hc2
  have HX := hid (And.intro h (And.intro hlv hlk))
  have HS0 := hid (show ∀ W, Below w.heap.size w W → W.cell? ⟨mb, 53, none⟩ = some (.slice al lk.length cl) ∧ ∀ o, W.frozen? ⟨mb, o, none⟩ = false from fun W hb => ⟨(hb.cell (p := ⟨mb, 53, none⟩) hml).trans c5, (h.m.below hb).free⟩)
  have HNM := hid (show ∀ W, Kept (fun k => (Value.slice al lk.length cl).ownBlock = some k) w W → Mb W mb s ∧ W.cell? ⟨mb, 53, none⟩ = some (.slice al lk.length cl) from fun W hk => by
    obtain ⟨cs, hbm, -⟩ := h.m.ex
    have h2 := h.m.kept hk (fun e => owns_blk hlk e hbm (fun cs e => by injection e with _ e; cases e))
    obtain ⟨-, -, -, -, -, c⟩ := h2.cells
    rw [hlv] at c
    exact ⟨h2, c⟩)
  clear h hlv hlk hc1 hc2
  go_enter Tryz.func92, Tryz.ntmps92
  go_wp2_with fail
  go_region_law
    (first
      | (refine step_append_rf _ (by rfl) (.tmp 10) (.tmp 16) 38 55 _ 2 32 (by rfl) Tryz.underlying38 Tryz.info55 rfl (by omega) B (.slice al lk.length cl) lk.length (lk.flatMap lcs) (by rfl) (HO.out.alloc _) (.slice (some ⟨w2.heap.size, 0, none⟩) 1 1) 1 [.string f, .string t] (by rfl) (rf_new w2 55 #[.string f, .string t] 2 rfl (ones2 _ _ rfl rfl)) (by omega) (by unfold maxLen; omega) HZ.out ?_; intro a9 c9 w9 hown hgr hob; have HGR := hid (And.intro hown.out (And.intro hgr.out hob.out)); have hm9 := HNM.out w9 (((Kept.ofBelow HB2.out).mono (S' := fun k => (Value.slice al lk.length cl).ownBlock = some k) (fun _ _ e => e.elim)).trans (((Kept.refl _ w2).alloc _).grown hgr.out (fun _ _ e => e)) (fun _ _ e => e)); have k5 := hm9.2; have hfz9 := hm9.1.free; have hml9 := hm9.1.lt; clear hown hgr hob hm9)
      | (go_simp; go_wp2_with (first
          | (go_at_call 80; (with_reducible show Calls _ _ #[.string f] _ _); refine (HC1.out _).mono ?_; rintro e w1 ⟨rfl, hb1⟩; have HB1 := hid (show Below w.heap.size w w1 from ⟨hb1.os, hb1.tape, hb1.output, hb1.size, hb1.block⟩); have k1 := (HS0.out w1 HB1.out).1; clear hb1)
          | (go_at_call 80; (with_reducible show Calls _ _ #[.string t] _ _); refine (HC2.out _).mono ?_; rintro e w2 ⟨rfl, hb2⟩; have HB2 := hid (below_on HB1.out hb2); have HO := hid (ownsRow_kept HX.out.2.2 (Kept.ofBelow HB2.out) (fun _ _ e => e)); have HZ := hid (show B ≤ (w2.alloc (.cells #[.string f, .string t] 55)).heap.size by have h1 := HX.out.1.bB; have h2 := HB2.out.size; simp; omega); have k2 := (HS0.out w2 HB2.out).1; have k3 := (HS0.out (w2.alloc (.cells #[.string f, .string t] 55)) (HB2.out.alloc HB2.out.size _)).1; clear hb2))))
  all_goals
    go_end0
    have ha := HX.out.1.addLook (w1 := w2.alloc (.cells #[.string f, .string t] 55)) (HB2.out.alloc HB2.out.size _) HGR.out.1 (by rw [HX.out.2.1]; exact HGR.out.2.1) (fun k e => by
      rw [HX.out.2.1]
      rcases HGR.out.2.2 with e2 | e2
      · exact .inl (e2 ▸ e)
      · rw [e2] at e
        injection e with e
        have h2 := HB2.out.size
        simp at e
        exact .inr (by omega))
    exact ⟨rfl, ⟨_, ha.1⟩, ha.2.1, ha.2.2⟩
end
theorem lookup_none_of {κ : Type} [DecidableEq κ] {k : κ} : ∀ {kv : List (κ × Value)}, k ∉ kv.map Prod.fst → kv.lookup k = none
  | [], _ => rfl
  | x :: kv, h => by
    simp at h
    rw [List.lookup_cons, show (k == x.1) = false by simpa using fun e => h.1 (by rw [e])]
    exact lookup_none_of (by simpa using h.2)
theorem zero28 (w : World) : (zeroValue 29).run Tryz.prog w = .ok (vl 0 0 emp) w := by kernel_rfl
section
variable {w w' : World} {B mb M : Nat} {s : Ms} {td : List Vd} {lk : List (ByteArray × ByteArray)} {kv : List (ByteArray × Value)}
theorem MX.lookNo (h : MX w B mb s td lk M kv) (key : ByteArray) (hn : key ∉ kv.map Prod.fst) : (Instr.lookup 74 (.map (some M)) (.string key) true).run Tryz.prog w = .ok (.tuple #[vl 0 0 emp, .bool false]) w := by
  obtain ⟨es, c, g⟩ := h.mg
  have h1 := g.look Tryz.underlying74 Tryz.underlying9 (zero28 w) key true
  rw [lookup_none_of hn] at h1
  exact h1
set_option maxHeartbeats 3200000 in
theorem seen_m (key : ByteArray) (p : Nat) (g : ByteArray → Option V.Pd) (n B0 : Nat) (v : V.Pd) (h : MX w B mb s td lk M kv) (hv : s.vw = .iface 42 (.pointer (some ⟨p, 0, none⟩))) (hp : V.PV w p g false n B0) (hn : key ∉ kv.map Prod.fst) (hg : g key = some v) :
    Calls Tryz.prog 93 #[.pointer (some ⟨mb, 0, none⟩), .string key] w fun e w' => e = .returned (vl v.n v.a v.ao) ∧ Below w.heap.size w w' := by
  have hb1 : Below w.heap.size w (w.alloc (vo 0 0 emp)) := below1 w _
  have hb2 : Below w.heap.size w ((w.alloc (vo 0 0 emp)).alloc (vo 0 0 emp)) := below_on hb1 (below1 _ _)
  have h1 := h.below hb1
  have h2 := h.below hb2
  have hl1 := h1.lookNo key hn
  obtain ⟨a0, -, -, -, a4, -⟩ := h1.m.cells
  obtain ⟨e0, -, -, -, e4, -⟩ := h2.m.cells
  rw [hv] at a0 e0
  rw [h.wv] at a4 e4
  have hml := h.m.lt
  have hpg := V.pget p key g false n B0 _ (hp.below hb2)
  have HG := hid (show Calls Tryz.prog 30 #[.pointer (some ⟨p, 0, none⟩), .string key] ((w.alloc (vo 0 0 emp)).alloc (vo 0 0 emp)) fun e w' => e = .returned (.tuple #[vl v.n v.a v.ao, .bool true]) ∧ Below w.heap.size w w' ∧ w'.heap[w.heap.size]? = some (vo 0 0 emp) from by
    refine hpg.mono ?_
    rintro e w' ⟨⟨r, q, rfl, hr⟩, hb⟩
    obtain ⟨rfl, rfl⟩ := hr.out v hg
    exact ⟨rfl, below_on hb2 hb.out, blk_of hb.out (two1 w _ _) (by simp; omega)⟩)
  clear h h1 h2 hv hp hn hg hpg hb1 hb2
  go_enter Tryz.func93, Tryz.ntmps93
  go_wp2_with (first
    | (go_at_call 30
       refine HG.out.mono ?_
       rintro e w3 ⟨rfl, hb3, hr3⟩
       have hw3 := hp_lt hr3
       obtain ⟨k0, k1, k2, k3⟩ := vfacts hr3
       have HB := hid (And.intro hb3 hr3)
       clear hb3 hr3))
  refine bodyPost_ret (ret_agg Tryz.results93 rfl (hp_alloc (set3 HB.out.2 _ _ _) _)) rfl ?_
  exact ⟨rfl, ((((HB.out.1.setCell (p := ⟨w.heap.size, 0, none⟩) (Nat.le_refl _) _).setCell (p := ⟨w.heap.size, 1, none⟩) (Nat.le_refl _) _).setCell (p := ⟨w.heap.size, 2, none⟩) (Nat.le_refl _) _).alloc (by have := HB.out.1.size; simp; omega) _)⟩
end
section
variable {w w' : World} {B mb M : Nat} {s : Ms} {td : List Vd} {lk : List (ByteArray × ByteArray)} {kv : List (ByteArray × Value)}
theorem did_set1 (h : MX w B mb s td lk M kv) (a : Nat) (ha : a < 16) (v : Vd) : ∃ W, W = (((w.setCell ⟨mb, 3 + a * 3, none⟩ (.int .i64 v.k)).setCell ⟨mb, 3 + a * 3 + 1, none⟩ (.int .i64 v.i)).setCell ⟨mb, 3 + a * 3 + 2, none⟩ (.string v.t)) ∧ MX W B mb (s.set a v) td lk M kv ∧ Kept (fun k => k = mb) w W := by
  refine ⟨_, rfl, ?_⟩
  have h1 := h.m.setReg a (by omega) (by omega) v
  rw [Int.toNat_natCast] at h1
  have hk : Kept (fun k => k = mb) w (((w.setCell ⟨mb, 3 + a * 3, none⟩ (.int .i64 v.k)).setCell ⟨mb, 3 + a * 3 + 1, none⟩ (.int .i64 v.i)).setCell ⟨mb, 3 + a * 3 + 2, none⟩ (.string v.t)) :=
    (((Kept.refl (fun k => k = mb) w).setCell (p := ⟨mb, 3 + a * 3, none⟩) (fun _ => rfl) _).setCell (p := ⟨mb, 3 + a * 3 + 1, none⟩) (fun _ => rfl) _).setCell (p := ⟨mb, 3 + a * 3 + 2, none⟩) (fun _ => rfl) _
  exact ⟨h.own h1 hk rfl rfl rfl, hk⟩
set_option maxHeartbeats 3200000 in
theorem get_m (x : Ins) (key : ByteArray) (p : Nat) (g : ByteArray → Option V.Pd) (n B0 : Nat) (v : V.Pd) (h : MX w B mb s td lk M kv) (a0 : 0 ≤ x.a) (a1 : x.a < 16) (b0 : 0 ≤ x.b) (b1 : x.b < 16) (hr : s.rg x.b = ⟨2, 0, key⟩) (hz : key.size ≤ 256) (hi : isKeyB key = true) (hl : lk.length ≤ 1000) (hv : s.vw = .iface 42 (.pointer (some ⟨p, 0, none⟩))) (hp : ∀ W, Below B w W → V.PV W p g false n B0) (hn : key ∉ kv.map Prod.fst) (hg : g key = some v) :
    Calls Tryz.prog 65 #[.pointer (some ⟨mb, 0, none⟩), x.val] w fun e w' => ∃ v', Did B w mb s (({ s with lv := v' } : Ms).set x.a ⟨v.n, v.a, v.ao⟩) td (lk ++ [(key, key)]) M kv e w' := by
  obtain ⟨op, a, b, c, n', vk, vi, vt⟩ := x
  dsimp only at a0 a1 b0 b1 hr ⊢
  obtain ⟨a, rfl⟩ := Int.eq_ofNat_of_zero_le a0
  have ha2 : a < 16 := by omega
  have hml := h.m.lt
  have hb0 : Below w.heap.size w (w.alloc (io op a b c n' vk vi vt)) := below1 w _
  have hnl : ¬ s.lv.ownBlock = some w.heap.size := fun e => by have := (h.lk.lt _ e).2; omega
  have HK := hid (key_ok b key (h.below hb0) b0 b1 hr hz hi)
  obtain ⟨-, y1, -⟩ := cells8 (hp_new w (io op a b c n' vk vi vt))
  have hy1 := World.block_lt_of_cell? _ _ y1
  have HX := hid (And.intro h (And.intro hb0 (And.intro hv (And.intro hp (And.intro hn (And.intro hg hnl))))))
  clear h hb0 hv hp hg hi hr hnl
  unfold Ins.val
  go_enter Tryz.func65, Tryz.ntmps65
  go_wp2_with (first
    | (go_at_call 91
       refine HK.out.mono ?_
       rintro e w1 ⟨rfl, hb1⟩
       have hx1 := HX.out.1.below (below_on HX.out.2.1 hb1)
       have hl1 := hx1.lookNo key HX.out.2.2.2.2.1
       obtain ⟨-, -, -, -, c4, -⟩ := hx1.m.cells
       rw [HX.out.1.wv] at c4
       have hx2 := hx1.below (below1 w1 (vo 0 0 emp))
       have HL := hid (look_m key key hx2 (by omega) (by omega) (by omega))
       have z1 := (hb1.cell hy1).trans y1
       have H1 := hid (And.intro hb1 hx2)
       clear hb1 hx1 hx2)
    | (go_at_call 92
       refine HL.out.mono ?_
       rintro e w3 ⟨rfl, ⟨v', hx3⟩, hb3, hk3⟩
       have hw1 := World.block_lt_of_cell? _ _ z1
       have z3 := hk3.cell (((below1 w1 (vo 0 0 emp)).cell hw1).trans z1) (fun e => by
         rcases e with e | e
         · dsimp only at e; omega
         · exact HX.out.2.2.2.2.2.2 e)
       have hbw := ((below_on HX.out.2.1 H1.out.1).mono HX.out.1.bB)
       have hbw3 : Below B w w3 := (hbw.alloc (Nat.le_trans HX.out.1.bB (below_on HX.out.2.1 H1.out.1).size) (vo 0 0 emp)).trans hb3
       have H3 := hid (And.intro hx3 (And.intro hbw3 hk3))
       clear hx3 hb3 hk3 hbw hbw3))
  have hx3d := H3.out.1.below ((Below.refl _ w3).drew)
  have HSE := hid (seen_m key p g n B0 v hx3d HX.out.2.2.1 (HX.out.2.2.2.1 _ (H3.out.2.1.drew)) HX.out.2.2.2.2.1 HX.out.2.2.2.2.2.1)
  have z3d := (show w3.drew.cell? ⟨w.heap.size, 1, none⟩ = some (.int .i64 a) from z3)
  have hne : mb ≠ w.heap.size := by omega
  clear hx3d z1 y1 hl1 c4
  go_region_held3 (fun wx => wx.cell? ⟨w.heap.size, 1, none⟩ = some (.int .i64 a))
    (first | exact z3d | exact z4 | (rw [V.cs_blk hne, V.cs_blk hne, V.cs_blk hne]; exact z4))
    (first
    | (go_at_call 93
       refine HSE.out.mono ?_
       rintro e w4 ⟨rfl, hb4'⟩
       have hb4 := (show Below w3.heap.size w3 w4 from ⟨hb4'.os, hb4'.tape, hb4'.output, hb4'.size, hb4'.block⟩)
       have hx4 := H3.out.1.below hb4
       have z4 := (hb4.cell (World.block_lt_of_cell? _ _ z3)).trans z3
       obtain ⟨s0, s1, s2⟩ := hx4.m.reg a a0 a1
       rw [Int.toNat_natCast] at s0 s1 s2
       have hfz := hx4.m.free
       have H4 := hid (And.intro hx4 hb4)
       clear hb4 hb4' hx4))
  all_goals
    go_end0
    obtain ⟨W, rfl, d2, d3⟩ := did_set1 H4.out.1 a ha2 ⟨v.n, v.a, v.ao⟩
    have q1 : Kept (Sx s mb M) w (w1.alloc (vo 0 0 emp)) := bsx ((below_on HX.out.2.1 H1.out.1).alloc (below_on HX.out.2.1 H1.out.1).size _)
    have q2 : Kept (Sx s mb M) w w3 := q1.trans H3.out.2.2 (fun k _ e => e.elim .inl (fun e => .inr (.inr (.inr e))))
    have q4 : Kept (Sx s mb M) w w4 := q2.trans (Kept.ofBelow H4.out.2) (fun _ _ e => e.elim)
    exact ⟨v', rfl, d2, q4.trans d3 (fun _ _ e => .inl e)⟩
end
end Go.Proofs.YthcoigbkdbkojabGreat
namespace Go.Proofs.YthcoigbkdbkojabGreat
open Go.RowKit Go.MapKept
open V (hp_new hp_lt hp_below hp_alloc)
section
variable {w w' : World} {B mb M : Nat} {s : Ms} {td : List Vd} {lk : List (ByteArray × ByteArray)} {kv : List (ByteArray × Value)}
theorem MX.addKey (h : MX w B mb s td lk M kv) {es : Array MapEntry} {c : Nat} (g : MG KS w M kv es c) {w2 : World} (key : ByteArray) (v : Value) (hn : key ∉ kv.map Prod.fst) (hb : w2.heap[M]? = some (.map (es.push { key := .string key, val := v, born := c }) (c + 1))) (hk : Kept (fun k => k = M) w w2) : MX w2 B mb s td lk M (kv ++ [(key, v)]) := by
  obtain ⟨cs, hbm, -⟩ := h.m.ex
  have hnm : ¬ mb = M := fun e => by have h1 := g.blk; rw [← e, hbm] at h1; cases h1
  refine ⟨h.m.kept hk hnm, h.ge, ?_, ?_, h.wv, ⟨_, _, g.push key v (lookup_none_of hn) hb⟩, h.gm⟩
  · exact ownsRow_kept h.td hk (fun k e e2 => owns_blk h.td (k := M) (by rw [← e2]; exact e) g.blk (fun cs e => by cases e))
  · exact ownsRow_kept h.lk hk (fun k e e2 => owns_blk h.lk (k := M) (by rw [← e2]; exact e) g.blk (fun cs e => by cases e))
set_option maxHeartbeats 3200000 in
theorem put_m (x : Ins) (key : ByteArray) (h : MX w B mb s td lk M kv) (a0 : 0 ≤ x.a) (a1 : x.a < 16) (b0 : 0 ≤ x.b) (b1 : x.b < 16) (hr : s.rg x.a = ⟨2, 0, key⟩) (hz : key.size ≤ 256) (hi : isKeyB key = true) (hn : key ∉ kv.map Prod.fst) :
    Calls Tryz.prog 66 #[.pointer (some ⟨mb, 0, none⟩), x.val] w (Did B w mb s s td lk M (kv ++ [(key, (s.rg x.b).val)])) := by
  obtain ⟨op, a, b, c, n', vk, vi, vt⟩ := x
  dsimp only at a0 a1 b0 b1 hr ⊢
  obtain ⟨b, rfl⟩ := Int.eq_ofNat_of_zero_le b0
  have hml := h.m.lt
  have hb0 : Below w.heap.size w (w.alloc (io op a b c n' vk vi vt)) := below1 w _
  have hx0 := h.below hb0
  have HK := hid (fun W (hb : Below (w.alloc (io op a b c n' vk vi vt)).heap.size (w.alloc (io op a b c n' vk vi vt)) W) => key_ok a key (hx0.below hb) a0 a1 hr hz hi)
  obtain ⟨-, y1, y2, -⟩ := cells8 (hp_new w (io op a b c n' vk vi vt))
  have HS := hid (show ∀ W, Below (w.alloc (io op a b c n' vk vi vt)).heap.size (w.alloc (io op a b c n' vk vi vt)) W → W.cell? ⟨w.heap.size, 1, none⟩ = some (.int .i64 a) ∧ W.cell? ⟨w.heap.size, 2, none⟩ = some (.int .i64 b) ∧ W.cell? ⟨mb, 52, none⟩ = some (.map (some M)) ∧ W.cell? ⟨mb, 3 + b * 3, none⟩ = some (.int .i64 (s.rg b).k) ∧ W.cell? ⟨mb, 3 + b * 3 + 1, none⟩ = some (.int .i64 (s.rg b).i) ∧ W.cell? ⟨mb, 3 + b * 3 + 2, none⟩ = some (.string (s.rg b).t) from fun W hb => by
    have hxW := hx0.below hb
    obtain ⟨-, -, -, -, c4, -⟩ := hxW.m.cells
    rw [h.wv] at c4
    obtain ⟨r0, r1, r2⟩ := hxW.m.reg b b0 b1
    rw [Int.toNat_natCast] at r0 r1 r2
    exact ⟨(hb.cell (World.block_lt_of_cell? _ _ y1)).trans y1, (hb.cell (World.block_lt_of_cell? _ _ y2)).trans y2, c4, r0, r1, r2⟩)
  obtain ⟨es, cc, g⟩ := h.mg
  have HX := hid (And.intro h (And.intro hx0 (And.intro g (And.intro hb0 hn))))
  obtain ⟨t1, t2, t3, t4, t5, t6⟩ := HS.out _ ((Below.refl _ _).drew)
  clear h hx0 g hb0 hn hr hi y1 y2
  unfold Ins.val
  go_enter Tryz.func66, Tryz.ntmps66
  go_wp2_with fail
  go_region_law
    (first
      | (go_simp; go_wp2_with (go_at_call 91; refine (HK.out _ ((Below.refl _ _).drew)).mono ?_; rintro e w1 ⟨rfl, hb1'⟩; have hb1 := (show Below (w.alloc (io op a b c n' vk vi vt)).heap.size (w.alloc (io op a b c n' vk vi vt)) w1 from ⟨hb1'.os, hb1'.tape, hb1'.output, hb1'.size, hb1'.block⟩); obtain ⟨k1, k2, k3, k4, k5, k6⟩ := HS.out _ hb1; have HB1 := hid (below_on HX.out.2.2.2.1 hb1); have hup := upd_new Tryz.underlying74 Tryz.underlying9 (HX.out.2.2.1.below HB1.out).blk (key_str key) (vl (s.rg b).k (s.rg b).i (s.rg b).t) ((HX.out.2.2.1).noKey key (lookup_none_of HX.out.2.2.2.2)); clear hb1 hb1')))
  all_goals
    go_end0
    have hx1 := HX.out.1.below HB1.out
    have g1 := HX.out.2.2.1.below HB1.out
    have qk : Kept (fun k => k = M) w1 (puts w1 M (.map (es.push { key := .string key, val := vl (s.rg b).k (s.rg b).i (s.rg b).t, born := cc }) (cc + 1))) := (Kept.refl _ w1).grown (puts_grown _ _ _) (fun k _ e => by injection e with e; exact e.symm)
    have q1 := hx1.addKey g1 key (vl (s.rg b).k (s.rg b).i (s.rg b).t) HX.out.2.2.2.2 (puts_same g1.blk) qk
    exact ⟨rfl, q1, (bsx HB1.out).trans qk (fun _ _ e => .inr (.inl e))⟩
end
end Go.Proofs.YthcoigbkdbkojabGreat
