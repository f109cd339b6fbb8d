import Derived.Test.YtlmompdfombgeaaGreatS3
namespace Go.Proofs.YtlmompdfombgeaaGreat
open Go.RowKit Go.MapKept

/-- A disk without a file. -/
structure Zero (B : Nat) (w : World) (d L Nb Fb : Nat) (room limit : Int) (st rd : Int) (cL cN cF : Nat) : Prop where
  disk : DiskB w d room limit (.map (some L)) 0 (.map (some Nb)) (.map (some Fb)) (.slice none 0 0) false st (.map none) rd (.map none)
  hL : w.heap[L]? = some (.map #[] cL)
  hN : w.heap[Nb]? = some (.map #[] cN)
  hF : w.heap[Fb]? = some (.map #[] cF)
  ne : L ≠ Nb ∧ L ≠ Fb ∧ Nb ≠ Fb
  ge : B ≤ d ∧ B ≤ L ∧ B ≤ Nb ∧ B ≤ Fb

theorem Zero.below {B : Nat} {w w' : World} {d L Nb Fb : Nat} {room limit : Int} {st rd : Int} {cL cN cF : Nat} (h : Zero B w d L Nb Fb room limit st rd cL cN cF) (hk : Below w.heap.size w w') : Zero B w' d L Nb Fb room limit st rd cL cN cF :=
  ⟨hp_below h.disk hk (hp_lt h.disk), hp_below h.hL hk (hp_lt h.hL), hp_below h.hN hk (hp_lt h.hN), hp_below h.hF hk (hp_lt h.hF), h.ne, h.ge⟩

theorem Zero.stroke {B : Nat} {w : World} {d L Nb Fb : Nat} {room limit : Int} {st rd : Int} {cL cN cF : Nat} (h : Zero B w d L Nb Fb room limit st rd cL cN cF) (n : Int) (nq : Nat) : Zero B ((w.setCell ⟨d, 8, none⟩ (.int .i64 n)).drewN nq) d L Nb Fb room limit n rd cL cN cF :=
  ⟨set_block (i := 8) h.disk _, hp_set h.hL (p := ⟨d, 8, none⟩) (fun e => hp_ne h.disk h.hL (by simp) e.symm) _, hp_set h.hN (p := ⟨d, 8, none⟩) (fun e => hp_ne h.disk h.hN (by simp) e.symm) _, hp_set h.hF (p := ⟨d, 8, none⟩) (fun e => hp_ne h.disk h.hF (by simp) e.symm) _, h.ne, h.ge⟩

section
variable {B : Nat} {w : World} {d L Nb Fb : Nat} {nm : ByteArray} {room limit : Int} {st rd : Int} {cL cN cF : Nat}

set_option maxRecDepth 100000 in
set_option maxHeartbeats 1600000 in
theorem create_new (h : Zero B w d L Nb Fb room limit st rd cL cN cF) (hB : B ≤ w.heap.size) (hlim : 0 < limit) (hok : nmOK nm = true) (hs : nm.size ≤ 1000000) (hne : nm.toList.isEmpty = false) (hst0 : 0 ≤ st) (hst : st ≤ 1000000) :
    Calls Tryz.prog 20 #[.pointer (some ⟨d, 0, none⟩), .string nm] w fun x w' => x = .returned (.int .i64 0) ∧ ∃ p vs vd vf vn, One B w' d L Nb Fb p nm room limit #[] (st + 1) rd [] [] [] (frs 0 0) 0 1 [.string ⟨#[]⟩, .string nm, .int .i64 1] vn (.map none) (.map none) [] vs (.slice none 0 0) vd vf (cL + 1) cL (cN + 1) cN cF ∧ Below B w w' := by
  have hmf : ∀ (fn : Fn) (first cap : Array Value) (w : World), (Instr.makeFunc fn first cap).run Tryz.prog w = .ok (.func fn first cap) w := fun _ _ _ _ => rfl
  have hsm : nm.size ≤ maxLen := by unfold maxLen; omega
  have hcall : Calls Tryz.prog 76 #[.pointer (some ⟨d, 0, none⟩), .agg #[.slice (some ⟨w.heap.size + 1 + 1, 0, none⟩) 1 1, .bool true, .int .i64 0], .func (.func 77) #[] #[.pointer (some ⟨w.heap.size, 0, none⟩), .pointer (some ⟨w.heap.size + 1, 0, none⟩)]]
      (((w.alloc (.cells #[.pointer (some ⟨d, 0, none⟩)] 22)).alloc (.cells #[.string nm] 9)).alloc (.cells #[.string nm] 9)) fun x w3 => x = .returned (.int .i64 0) ∧ ∃ p vs vd vf vn, One B w3 d L Nb Fb p nm room limit #[] (st + 1) rd [] [] [] (frs 0 0) 0 1 [.string ⟨#[]⟩, .string nm, .int .i64 1] vn (.map none) (.map none) [] vs (.slice none 0 0) vd vf (cL + 1) cL (cN + 1) cN cF ∧ Below B w w3 := by
    have hb0 : Below w.heap.size w (((w.alloc (.cells #[.pointer (some ⟨d, 0, none⟩)] 22)).alloc (.cells #[.string nm] 9)).alloc (.cells #[.string nm] 9)) := (((Below.refl _ _).alloc (Nat.le_refl _) _).alloc (by simp) _).alloc (by simp; omega) _
    have hdl := hp_lt h.disk
    have g0 : (((w.alloc (.cells #[.pointer (some ⟨d, 0, none⟩)] 22)).alloc (.cells #[.string nm] 9)).alloc (.cells #[.string nm] 9)).cell? ⟨w.heap.size, 0, none⟩ = some (.pointer (some ⟨d, 0, none⟩)) := by simp [go_sem]
    have g1 : (((w.alloc (.cells #[.pointer (some ⟨d, 0, none⟩)] 22)).alloc (.cells #[.string nm] 9)).alloc (.cells #[.string nm] 9)).cell? ⟨w.heap.size + 1, 0, none⟩ = some (.string nm) := by simp [go_sem]
    have g2 : (((w.alloc (.cells #[.pointer (some ⟨d, 0, none⟩)] 22)).alloc (.cells #[.string nm] 9)).alloc (.cells #[.string nm] 9)).cell? ⟨w.heap.size + 1 + 1, 0, none⟩ = some (.string nm) := by simp [go_sem]
    have hsz : (((w.alloc (.cells #[.pointer (some ⟨d, 0, none⟩)] 22)).alloc (.cells #[.string nm] 9)).alloc (.cells #[.string nm] 9)).heap.size = w.heap.size + 3 := by simp
    obtain ⟨W, hW⟩ : ∃ W, W = (((w.alloc (.cells #[.pointer (some ⟨d, 0, none⟩)] 22)).alloc (.cells #[.string nm] 9)).alloc (.cells #[.string nm] 9)) := ⟨_, rfl⟩
    rw [← hW] at hb0 g0 g1 g2 hsz ⊢
    clear hW
    have hZ := h.below hb0
    have hba : Below W.heap.size W (W.alloc (.cells #[.slice (some ⟨w.heap.size + 1 + 1, 0, none⟩) 1 1, .bool true, .int .i64 0] 104)) := (Below.refl _ _).alloc (Nat.le_refl _) _
    refine stroke_ok d 77 _ _ _ (.pointer none) _ 0 W (fun w1 => Below W.heap.size W w1) (fun w2 => Zero B w2 d L Nb Fb room limit (st + 1) rd cL cN cF ∧ Kept (fun k => k = d) W w2) _ (enters_of Tryz.func77 (by kernel_rfl) rfl) rfl rfl rfl ?_ ?_ ?_
    · have hZ2 := hZ.below hba
      obtain ⟨c0, c1, c2, c3, c4, c5, c6, c7, c8, c9, c10, c11⟩ := hZ2.disk.cells
      refine (find_absent d (w.heap.size + 1 + 1) Nb nm #[] cN _ c7 c4 hZ2.hN ((hba.cell (World.block_lt_of_cell? _ _ g2)).trans g2) hok hsm rfl).mono ?_
      rintro e w1 ⟨rfl, hb⟩
      exact ⟨rfl, hba.trans (hb.mono (by simp))⟩
    · intro w1 hb
      have hw := hZ.below hb
      obtain ⟨c0, c1, c2, c3, c4, c5, c6, c7, c8, c9, c10, c11⟩ := hw.disk.cells
      refine (count_any d 8 st (.map none) w1 _ _ hw.disk c8 c9 hst0 (by omega) (.inl rfl)).mono ?_
      rintro e w2 ⟨nq, rfl, rfl⟩
      exact ⟨rfl, hw.stroke (st + 1) nq, keptd hb⟩
    · rintro w2 ⟨hz2, hk2⟩
      have hs2 := hk2.size
      have hBw : B ≤ w2.heap.size := by omega
      have hdd := hp_lt hz2.disk
      refine (create1_any B d w.heap.size (w.heap.size + 1) (.pointer none) nm w2 room limit L 0 Nb (.map (some Fb)) (.slice none 0 0) false (st + 1) (.map none) rd (.map none) #[] #[] cL cN 0 [] hz2.disk hz2.hL hz2.hN hz2.ne.1 hBw (owns_nil _ _ _ _) (by omega) (hk2.cell g0 (fun e => by simp at e; omega)) (hk2.cell g1 (fun e => by simp at e; omega)) (by omega) (by omega) (by simpa using hlim) (by omega) (by omega) hs hne rfl rfl rfl).mono ?_
      rintro e w3 ⟨rfl, p, vs, vd, vf, vn, hp, hfile, hD3, hL3, hN3, hv3, hk3⟩
      have hF3 := hp_kept hz2.hF hk3 (by
        rintro (e | e | e | e)
        · exact hp_ne hz2.disk hz2.hF (by simp) e.symm
        · exact hz2.ne.2.1 e.symm
        · exact hz2.ne.2.2 e.symm
        · simp [Value.ownBlock] at e)
      refine ⟨rfl, p, vs, vd, vf, vn, ⟨hD3, hL3, hN3, hF3, hz2.ne.2.2, by omega, by omega, hfile.base hBw, Pends.nil _ _ _ _, hv3, .inl rfl, .inl rfl, ?_⟩, ?_⟩
      · obtain ⟨e1, e2, e3, e4⟩ := hz2.ge
        exact ⟨e1, e2, e3, e4, by omega⟩
      · obtain ⟨e1, e2, e3, e4⟩ := hz2.ge
        refine ((hb0.mono hB).trans (hk2.below (by omega) (fun k hk e => by omega))).trans (hk3.below hBw ?_)
        rintro k hk (e | e | e | e)
        · omega
        · omega
        · omega
        · simp [Value.ownBlock] at e
  have HC := hid hcall
  clear h hcall
  go_enter Tryz.func20, Tryz.ntmps20
  go_wp2_with (
    go_at_call 76
    refine HC.out.mono ?_
    rintro e w3 ⟨rfl, hx⟩
    have HX := hid hx
    clear hx)
  go_ret
  exact ⟨rfl, HX.out⟩

end

section
variable {B : Nat} {w : World} {d L Nb Fb p : Nat} {nm : ByteArray} {room limit : Int} {sf : Array MapEntry} {st rd : Int} {safe : List Int} {cs : List Chg} {data : List Int} {fresh : List Bool} {peak : Int} {nn : Nat} {xs : List Value} {vn k1 k2 : Value} {pend : List Value} {vs vp vd vf : Value} {cL bL cN bN cF : Nat}

set_option maxRecDepth 100000 in
set_option maxHeartbeats 1600000 in
theorem create_old (h : One B w d L Nb Fb p nm room limit sf st rd safe cs data fresh peak nn xs vn k1 k2 pend vs vp vd vf cL bL cN bN cF) (hok : nmOK nm = true) (hsm : nm.size ≤ maxLen) :
    Calls Tryz.prog 20 #[.pointer (some ⟨d, 0, none⟩), .string nm] w fun x w' => x = .returned (.int .i64 7) ∧ Below w.heap.size w w' := by
  have hmf : ∀ (fn : Fn) (first cap : Array Value) (w : World), (Instr.makeFunc fn first cap).run Tryz.prog w = .ok (.func fn first cap) w := fun _ _ _ _ => rfl
  have hcall : Calls Tryz.prog 76 #[.pointer (some ⟨d, 0, none⟩), .agg #[.slice (some ⟨w.heap.size + 1 + 1, 0, none⟩) 1 1, .bool true, .int .i64 0], .func (.func 77) #[] #[.pointer (some ⟨w.heap.size, 0, none⟩), .pointer (some ⟨w.heap.size + 1, 0, none⟩)]]
      (((w.alloc (.cells #[.pointer (some ⟨d, 0, none⟩)] 22)).alloc (.cells #[.string nm] 9)).alloc (.cells #[.string nm] 9)) fun x w3 => x = .returned (.int .i64 7) ∧ Below w.heap.size w w3 := by
    have hb0 : Below w.heap.size w (((w.alloc (.cells #[.pointer (some ⟨d, 0, none⟩)] 22)).alloc (.cells #[.string nm] 9)).alloc (.cells #[.string nm] 9)) := (((Below.refl _ _).alloc (Nat.le_refl _) _).alloc (by simp) _).alloc (by simp; omega) _
    have g2 : (((w.alloc (.cells #[.pointer (some ⟨d, 0, none⟩)] 22)).alloc (.cells #[.string nm] 9)).alloc (.cells #[.string nm] 9)).cell? ⟨w.heap.size + 1 + 1, 0, none⟩ = some (.string nm) := by simp [go_sem]
    have hsz : (((w.alloc (.cells #[.pointer (some ⟨d, 0, none⟩)] 22)).alloc (.cells #[.string nm] 9)).alloc (.cells #[.string nm] 9)).heap.size = w.heap.size + 3 := by simp
    obtain ⟨W, hW⟩ : ∃ W, W = (((w.alloc (.cells #[.pointer (some ⟨d, 0, none⟩)] 22)).alloc (.cells #[.string nm] 9)).alloc (.cells #[.string nm] 9)) := ⟨_, rfl⟩
    rw [← hW] at hb0 g2 hsz ⊢
    clear hW
    have hba : Below W.heap.size W (W.alloc (.cells #[.slice (some ⟨w.heap.size + 1 + 1, 0, none⟩) 1 1, .bool true, .int .i64 0] 104)) := (Below.refl _ _).alloc (Nat.le_refl _) _
    refine stroke_no d 77 _ _ _ (.pointer none) _ 7 W (fun w1 => Below w.heap.size w w1) rfl rfl rfl rfl ?_
    have hO := (h.below hb0).below hba
    obtain ⟨c0, c1, c2, c3, c4, c5, c6, c7, c8, c9, c10, c11⟩ := hO.disk.cells
    refine (find_exists d (w.heap.size + 1 + 1) Nb nm _ cN 0 1 _ c7 c4 hO.hN ((hba.cell (World.block_lt_of_cell? _ _ g2)).trans g2) hok hsm (by simp [Instr.findNow, Instr.sameNow, beq_self])).mono ?_
    rintro e w1 ⟨rfl, hb⟩
    exact ⟨rfl, (hb0.trans (hba.mono (by omega))).trans (hb.mono (by simp; omega))⟩
  have HC := hid hcall
  clear h hcall
  go_enter Tryz.func20, Tryz.ntmps20
  go_wp2_with (
    go_at_call 76
    refine HC.out.mono ?_
    rintro e w3 ⟨rfl, hx⟩
    have HX := hid hx
    clear hx)
  go_ret
  exact ⟨rfl, HX.out⟩

end
end Go.Proofs.YtlmompdfombgeaaGreat
