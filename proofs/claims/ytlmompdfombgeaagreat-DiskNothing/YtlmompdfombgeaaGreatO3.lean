import Derived.Test.YtlmompdfombgeaaGreatO2
namespace Go.Proofs.YtlmompdfombgeaaGreat
open Go.RowKit Go.MapKept

theorem keptd {w w1 : World} {d n : Nat} {x : Value} {nq : Nat} (h : Below w.heap.size w w1) : Kept (fun k => k = d) w ((w1.setCell ⟨d, n, none⟩ x).drewN nq) := by
  have h0 := ((Kept.ofBelow h).mono (S' := fun k => k = d) (fun _ _ e => e.elim)).setCell (p := ⟨d, n, none⟩) (fun _ => rfl) x
  exact ⟨h0.os, h0.tape, h0.output, h0.size, h0.block⟩

section
variable {B : Nat} {w : World} {d L Nb Fb p : Nat} {nm : ByteArray} {room limit : Int} {sf : Array MapEntry} {st rd : Int} {safe : List Int} {cs : List Chg} {data : List Int} {fresh : List Bool} {peak : Int} {nn : Nat} {xs : List Value} {vn k1 k2 : Value} {pend : List Value} {vs vp vd vf : Value} {cL bL cN bN cF : Nat}

theorem beq_self (s : ByteArray) : (s == s) = true := (bytes_beq s s).2 rfl

theorem One.find (h : One B w d L Nb Fb p nm room limit sf st rd safe cs data fresh peak nn xs vn k1 k2 pend vs vp vd vf cL bL cN bN cF) (g : Nat) (sz : Int) (hg : w.cell? ⟨g, 0, none⟩ = some (.string nm)) (hok : nmOK nm = true) (hs : nm.size ≤ maxLen) (h0 : 0 ≤ sz) (h1 : sz ≤ data.length) :
    Calls Tryz.prog 69 #[.pointer (some ⟨d, 0, none⟩), .agg #[.slice (some ⟨g, 0, none⟩) 1 1, .bool false, .int .i64 sz]] w fun x w' => x = .returned (.tuple #[.pointer (some ⟨p, 0, none⟩), .int .i64 0]) ∧ Below w.heap.size w w' := by
  obtain ⟨c0, c1, c2, c3, c4, c5, c6, c7, c8, c9, c10, c11⟩ := h.disk.cells
  obtain ⟨p0, p1, p2, p3, p4⟩ := cells5 h.file.blk
  obtain ⟨ad, cd, hvd⟩ := own_shape h.file.od
  rw [hvd] at p2
  exact find_there d g Nb L p nm _ _ cN cL 0 0 1 sz ad data.length cd w c7 c4 c2 h.hN h.hL hg hok hs (by simp [Instr.findNow, Instr.sameNow, beq_self]) (by simp [Instr.findNow, Instr.sameNow]) p2 h0 h1

theorem stroke_there (h : One B w d L Nb Fb p nm room limit sf st rd safe cs data fresh peak nn xs vn k1 k2 pend vs vp vd vf cL bL cN bN cF) (g : Nat) (sz : Int) (hg : w.cell? ⟨g, 0, none⟩ = some (.string nm)) (hok : nmOK nm = true) (hs : nm.size ≤ maxLen) (h0 : 0 ≤ sz) (h1 : sz ≤ data.length) (hst0 : 0 ≤ st) (hst : st ≤ 1000000)
    (fn : Nat) (cap : Array Value) (r : Int) (R3 : World → Prop) (he : ∀ args w, (callFunc fn args).run Tryz.prog w = .ok (.enter fn args) w)
    (hdo : ∀ w2, One B w2 d L Nb Fb p nm room limit sf (st + 1) rd safe cs data fresh peak nn xs vn k1 k2 pend vs vp vd vf cL bL cN bN cF → Kept (fun k => k = d) w w2 → Calls Tryz.prog fn (#[.pointer (some ⟨p, 0, none⟩)] ++ cap) w2 fun x w3 => x = .returned (.int .i64 r) ∧ R3 w3) :
    Calls Tryz.prog 76 #[.pointer (some ⟨d, 0, none⟩), .agg #[.slice (some ⟨g, 0, none⟩) 1 1, .bool false, .int .i64 sz], .func (.func fn) #[] cap] w fun x w3 => x = .returned (.int .i64 r) ∧ R3 w3 := by
  have hba : Below w.heap.size w (w.alloc (.cells #[.slice (some ⟨g, 0, none⟩) 1 1, .bool false, .int .i64 sz] 104)) := (Below.refl _ _).alloc (Nat.le_refl _) _
  refine stroke_ok d fn _ _ _ _ cap r w (fun w1 => Below w.heap.size w w1) (fun w2 => One B w2 d L Nb Fb p nm room limit sf (st + 1) rd safe cs data fresh peak nn xs vn k1 k2 pend vs vp vd vf cL bL cN bN cF ∧ Kept (fun k => k = d) w w2) R3 he rfl rfl rfl ?_ ?_ (fun w2 h2 => hdo w2 h2.1 h2.2)
  · refine ((h.below hba).find g sz ((hba.cell (World.block_lt_of_cell? _ _ hg)).trans hg) hok hs h0 h1).mono ?_
    rintro e w1 ⟨rfl, hb⟩
    exact ⟨rfl, hba.trans (hb.mono (by simp))⟩
  · intro w1 hb
    have hw := h.below hb
    obtain ⟨c0, c1, c2, c3, c4, c5, c6, c7, c8, c9, c10, c11⟩ := hw.disk.cells
    refine (count_any d 8 st k1 w1 _ _ hw.disk c8 c9 hst0 (by omega) hw.kn1).mono ?_
    rintro e w2 ⟨nq, rfl, rfl⟩
    exact ⟨rfl, hw.stroke (st + 1) nq, keptd hb⟩

set_option maxRecDepth 100000 in
set_option maxHeartbeats 1600000 in
theorem append_one (h : One B w d L Nb Fb p nm room limit sf st rd safe cs data fresh peak nn xs vn k1 k2 pend vs vp vd vf cL bL cN bN cF) (hB : B ≤ w.heap.size) (ao : Option Addr) (cap : Nat) (ys : List Int) (hsl : Sl w (.slice ao ys.length cap) ys) (hsd : ∀ k, (Value.slice ao ys.length cap).ownBlock = some k → k ≠ d) (hne : 0 < ys.length) (hok : nmOK nm = true) (hs : nm.size ≤ maxLen) (hst0 : 0 ≤ st) (hst : st ≤ 1000000)
    (l1 : pend.length ≤ 1000000) (l2 : data.length ≤ 100000000) (l3 : fresh.length ≤ 100000000) (l4 : ys.length ≤ 100000000) (hp0 : 0 ≤ peak) (hp1 : peak ≤ 1000000000) (hroom : max peak (data.length + ys.length : Int) ≤ room) :
    Calls Tryz.prog 21 #[.pointer (some ⟨d, 0, none⟩), .string nm, .slice ao ys.length cap] w fun x w' => x = .returned (.int .i64 0) ∧ ∃ pend' vp' vd' vf', One B w' d L Nb Fb p nm room limit sf (st + 1) rd safe (cs ++ [.inl ys]) (data ++ ys) (fresh ++ List.replicate ys.length true) (max peak (data ++ ys).length) nn xs vn k1 k2 pend' vs vp' vd' vf' cL bL cN bN cF ∧ Below B w w' := by
  have hmf : ∀ (fn : Fn) (first cap : Array Value) (w : World), (Instr.makeFunc fn first cap).run Tryz.prog w = .ok (.func fn first cap) w := fun _ _ _ _ => rfl
  have hcall : Calls Tryz.prog 76 #[.pointer (some ⟨d, 0, none⟩), .agg #[.slice (some ⟨w.heap.size + 1 + 1, 0, none⟩) 1 1, .bool false, .int .i64 0], .func (.func 80) #[] #[.pointer (some ⟨w.heap.size, 0, none⟩), .pointer (some ⟨w.heap.size + 1, 0, none⟩)]]
      (((w.alloc (.cells #[.pointer (some ⟨d, 0, none⟩)] 22)).alloc (.cells #[.slice ao ys.length cap] 35)).alloc (.cells #[.string nm] 9)) fun x w3 => x = .returned (.int .i64 0) ∧ ∃ pend' vp' vd' vf', One B w3 d L Nb Fb p nm room limit sf (st + 1) rd safe (cs ++ [.inl ys]) (data ++ ys) (fresh ++ List.replicate ys.length true) (max peak (data ++ ys).length) nn xs vn k1 k2 pend' vs vp' vd' vf' cL bL cN bN cF ∧ Below B w w3 := by
    have hb0 : Below w.heap.size w (((w.alloc (.cells #[.pointer (some ⟨d, 0, none⟩)] 22)).alloc (.cells #[.slice ao ys.length cap] 35)).alloc (.cells #[.string nm] 9)) := (((Below.refl _ _).alloc (Nat.le_refl _) _).alloc (by simp) _).alloc (by simp; omega) _
    have hdl := hp_lt h.disk
    have g0 : (((w.alloc (.cells #[.pointer (some ⟨d, 0, none⟩)] 22)).alloc (.cells #[.slice ao ys.length cap] 35)).alloc (.cells #[.string nm] 9)).cell? ⟨w.heap.size, 0, none⟩ = some (.pointer (some ⟨d, 0, none⟩)) := by simp [go_sem]
    have g1 : (((w.alloc (.cells #[.pointer (some ⟨d, 0, none⟩)] 22)).alloc (.cells #[.slice ao ys.length cap] 35)).alloc (.cells #[.string nm] 9)).cell? ⟨w.heap.size + 1, 0, none⟩ = some (.slice ao ys.length cap) := by simp [go_sem]
    have g2 : (((w.alloc (.cells #[.pointer (some ⟨d, 0, none⟩)] 22)).alloc (.cells #[.slice ao ys.length cap] 35)).alloc (.cells #[.string nm] 9)).cell? ⟨w.heap.size + 1 + 1, 0, none⟩ = some (.string nm) := by simp [go_sem]
    have hsz : (((w.alloc (.cells #[.pointer (some ⟨d, 0, none⟩)] 22)).alloc (.cells #[.slice ao ys.length cap] 35)).alloc (.cells #[.string nm] 9)).heap.size = w.heap.size + 3 := by simp
    obtain ⟨W, hW⟩ : ∃ W, W = (((w.alloc (.cells #[.pointer (some ⟨d, 0, none⟩)] 22)).alloc (.cells #[.slice ao ys.length cap] 35)).alloc (.cells #[.string nm] 9)) := ⟨_, rfl⟩
    rw [← hW] at hb0 g0 g1 g2 hsz ⊢
    refine stroke_there (h.below hb0) (w.heap.size + 1 + 1) 0 g2 hok hs (by omega) (by omega) hst0 hst 80 _ 0 _ (enters_of Tryz.func80 (by kernel_rfl) rfl) ?_
    intro w2 ho2 hk2
    refine (append1_one ho2 (by have := hk2.size; omega) w.heap.size (w.heap.size + 1) ao cap ys (hk2.cell g0 (fun e => by simp at e; omega)) (hk2.cell g1 (fun e => by simp at e; omega)) ((hsl.below hb0).kept hk2 (fun k hk e => hsd k hk e)) hne l1 l2 l3 l4 hp0 hp1 hroom).mono ?_
    rintro e w3 ⟨rfl, pend', vp', vd', vf', hO, hb⟩
    refine ⟨rfl, pend', vp', vd', vf', hO, ?_⟩
    exact ((hb0.mono hB).trans (hk2.below (by omega) (fun k hk e => by have := h.ge; omega))).trans hb
  have HC := hid hcall
  clear h hsl hcall
  go_enter Tryz.func21, Tryz.ntmps21
  go_wp2_with (
    go_at_call 76
    refine HC.out.mono ?_
    rintro e w3 ⟨rfl, hx⟩
    have HX := hid hx
    clear hx)
  go_ret
  exact ⟨rfl, HX.out⟩

end
end Go.Proofs.YtlmompdfombgeaaGreat
