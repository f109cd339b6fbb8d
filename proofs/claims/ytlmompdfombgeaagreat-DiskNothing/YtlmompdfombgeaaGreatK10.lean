import Derived.Test.YtlmompdfombgeaaGreatK09
namespace Go.Proofs.YtlmompdfombgeaaGreat
open Go.RowKit Go.MapKept

/-- A disk without a file. -/
structure Zero (B : Nat) (w : World) (d L Nb Fb : Nat) (room limit : Int) (st rd : Int) (cL cN cF : Nat) : Prop where
  disk : DiskB w d room limit (.map (some L)) 0 (.map (some Nb)) (.map (some Fb)) (.slice none 0 0) false st (.map none) rd (.map none)
  hL : w.heap[L]? = some (.map #[] cL)
  hN : w.heap[Nb]? = some (.map #[] cN)
  hF : w.heap[Fb]? = some (.map #[] cF)
  ne : L ≠ Nb ∧ L ≠ Fb ∧ Nb ≠ Fb
  ge : B ≤ d ∧ B ≤ L ∧ B ≤ Nb ∧ B ≤ Fb

theorem Zero.below {B : Nat} {w w' : World} {d L Nb Fb : Nat} {room limit : Int} {st rd : Int} {cL cN cF : Nat} (h : Zero B w d L Nb Fb room limit st rd cL cN cF) (hk : Below w.heap.size w w') : Zero B w' d L Nb Fb room limit st rd cL cN cF :=
  ⟨hp_below h.disk hk (hp_lt h.disk), hp_below h.hL hk (hp_lt h.hL), hp_below h.hN hk (hp_lt h.hN), hp_below h.hF hk (hp_lt h.hF), h.ne, h.ge⟩

theorem Zero.stroke {B : Nat} {w : World} {d L Nb Fb : Nat} {room limit : Int} {st rd : Int} {cL cN cF : Nat} (h : Zero B w d L Nb Fb room limit st rd cL cN cF) (n : Int) (nq : Nat) : Zero B ((w.setCell ⟨d, 8, none⟩ (.int .i64 n)).drewN nq) d L Nb Fb room limit n rd cL cN cF :=
  ⟨set_block (i := 8) h.disk _, hp_set h.hL (p := ⟨d, 8, none⟩) (fun e => hp_ne h.disk h.hL (by simp) e.symm) _, hp_set h.hN (p := ⟨d, 8, none⟩) (fun e => hp_ne h.disk h.hN (by simp) e.symm) _, hp_set h.hF (p := ⟨d, 8, none⟩) (fun e => hp_ne h.disk h.hF (by simp) e.symm) _, h.ne, h.ge⟩

section
variable {B : Nat} {w : World} {d L Nb Fb : Nat} {nm : ByteArray} {room limit : Int} {st rd : Int} {cL cN cF : Nat}

set_option maxRecDepth 100000 in
set_option maxHeartbeats 1600000 in
theorem create_new (h : Zero B w d L Nb Fb room limit st rd cL cN cF) (hB : B ≤ w.heap.size) (hlim : 0 < limit) (hok : nmOK nm = true) (hs : nm.size ≤ 1000000) (hne : nm.toList.isEmpty = false) (hst0 : 0 ≤ st) (hst : st ≤ 1000000) :
    Calls Tryz.prog 20 #[.pointer (some ⟨d, 0, none⟩), .string nm] w fun x w' => x = .returned (.int .i64 0) ∧ ∃ p vs vd vf vn, One B w' d L Nb Fb p nm room limit #[] (st + 1) rd [] [] [] (frs 0 0) 0 1 [.string ⟨#[]⟩, .string nm, .int .i64 1] vn (.map none) (.map none) [] vs (.slice none 0 0) vd vf (cL + 1) cL (cN + 1) cN cF ∧ Below B w w' := by
  have hmf : ∀ (fn : Fn) (first cap : Array Value) (w : World), (Instr.makeFunc fn first cap).run Tryz.prog w = .ok (.func fn first cap) w := fun _ _ _ _ => rfl
  have hsm : nm.size ≤ maxLen := by unfold maxLen; omega
  have hcall : Calls Tryz.prog 76 #[.pointer (some ⟨d, 0, none⟩), .agg #[.slice (some ⟨w.heap.size + 1 + 1, 0, none⟩) 1 1, .bool true, .int .i64 0], .func (.func 77) #[] #[.pointer (some ⟨w.heap.size, 0, none⟩), .pointer (some ⟨w.heap.size + 1, 0, none⟩)]]
      (((w.alloc (.cells #[.pointer (some ⟨d, 0, none⟩)] 22)).alloc (.cells #[.string nm] 9)).alloc (.cells #[.string nm] 9)) fun x w3 => x = .returned (.int .i64 0) ∧ ∃ p vs vd vf vn, One B w3 d L Nb Fb p nm room limit #[] (st + 1) rd [] [] [] (frs 0 0) 0 1 [.string ⟨#[]⟩, .string nm, .int .i64 1] vn (.map none) (.map none) [] vs (.slice none 0 0) vd vf (cL + 1) cL (cN + 1) cN cF ∧ Below B w w3 := by
    have hb0 : Below w.heap.size w (((w.alloc (.cells #[.pointer (some ⟨d, 0, none⟩)] 22)).alloc (.cells #[.string nm] 9)).alloc (.cells #[.string nm] 9)) := (((Below.refl _ _).alloc (Nat.le_refl _) _).alloc (by simp) _).alloc (by simp; omega) _
    have hdl := hp_lt h.disk
    have g0 : (((w.alloc (.cells #[.pointer (some ⟨d, 0, none⟩)] 22)).alloc (.cells #[.string nm] 9)).alloc (.cells #[.string nm] 9)).cell? ⟨w.heap.size, 0, none⟩ = some (.pointer (some ⟨d, 0, none⟩)) := by simp [go_sem]
    have g1 : (((w.alloc (.cells #[.pointer (some ⟨d, 0, none⟩)] 22)).alloc (.cells #[.string nm] 9)).alloc (.cells #[.string nm] 9)).cell? ⟨w.heap.size + 1, 0, none⟩ = some (.string nm) := by simp [go_sem]
    have g2 : (((w.alloc (.cells #[.pointer (some ⟨d, 0, none⟩)] 22)).alloc (.cells #[.string nm] 9)).alloc (.cells #[.string nm] 9)).cell? ⟨w.heap.size + 1 + 1, 0, none⟩ = some (.string nm) := by simp [go_sem]
    have hsz : (((w.alloc (.cells #[.pointer (some ⟨d, 0, none⟩)] 22)).alloc (.cells #[.string nm] 9)).alloc (.cells #[.string nm] 9)).heap.size = w.heap.size + 3 := by simp
    obtain ⟨W, hW⟩ : ∃ W, W = (((w.alloc (.cells #[.pointer (some ⟨d, 0, none⟩)] 22)).alloc (.cells #[.string nm] 9)).alloc (.cells #[.string nm] 9)) := ⟨_, rfl⟩
    rw [← hW] at hb0 g0 g1 g2 hsz ⊢
    clear hW
    have hZ := h.below hb0
    have hba : Below W.heap.size W (W.alloc (.cells #[.slice (some ⟨w.heap.size + 1 + 1, 0, none⟩) 1 1, .bool true, .int .i64 0] 104)) := (Below.refl _ _).alloc (Nat.le_refl _) _
    refine stroke_ok d 77 _ _ _ (.pointer none) _ 0 W (fun w1 => Below W.heap.size W w1) (fun w2 => Zero B w2 d L Nb Fb room limit (st + 1) rd cL cN cF ∧ Kept (fun k => k = d) W w2) _ (enters_of Tryz.func77 (by kernel_rfl) rfl) rfl rfl rfl ?_ ?_ ?_
    · have hZ2 := hZ.below hba
      obtain ⟨c0, c1, c2, c3, c4, c5, c6, c7, c8, c9, c10, c11⟩ := hZ2.disk.cells
      refine (find_absent d (w.heap.size + 1 + 1) Nb nm #[] cN _ c7 c4 hZ2.hN ((hba.cell (World.block_lt_of_cell? _ _ g2)).trans g2) hok hsm rfl).mono ?_
      rintro e w1 ⟨rfl, hb⟩
      exact ⟨rfl, hba.trans (hb.mono (by simp))⟩
    · intro w1 hb
      have hw := hZ.below hb
      obtain ⟨c0, c1, c2, c3, c4, c5, c6, c7, c8, c9, c10, c11⟩ := hw.disk.cells
      refine (count_any d 8 st (.map none) w1 _ _ hw.disk c8 c9 hst0 (by omega) (.inl rfl)).mono ?_
      rintro e w2 ⟨nq, rfl, rfl⟩
      exact ⟨rfl, hw.stroke (st + 1) nq, keptd hb⟩
    · rintro w2 ⟨hz2, hk2⟩
      have hs2 := hk2.size
      have hBw : B ≤ w2.heap.size := by omega
      have hdd := hp_lt hz2.disk
      refine (create1_any B d w.heap.size (w.heap.size + 1) (.pointer none) nm w2 room limit L 0 Nb (.map (some Fb)) (.slice none 0 0) false (st + 1) (.map none) rd (.map none) #[] #[] cL cN 0 [] hz2.disk hz2.hL hz2.hN hz2.ne.1 hBw (owns_nil _ _ _ _) (by omega) (hk2.cell g0 (fun e => by simp at e; omega)) (hk2.cell g1 (fun e => by simp at e; omega)) (by omega) (by omega) (by simpa using hlim) (by omega) (by omega) hs hne rfl rfl rfl).mono ?_
      rintro e w3 ⟨rfl, p, vs, vd, vf, vn, hp, hfile, hD3, hL3, hN3, hv3, hk3⟩
      have hF3 := hp_kept hz2.hF hk3 (by
        rintro (e | e | e | e)
        · exact hp_ne hz2.disk hz2.hF (by simp) e.symm
        · exact hz2.ne.2.1 e.symm
        · exact hz2.ne.2.2 e.symm
        · simp [Value.ownBlock] at e)
      refine ⟨rfl, p, vs, vd, vf, vn, ⟨hD3, hL3, hN3, hF3, hz2.ne.2.2, by omega, by omega, hfile.base hBw, Pends.nil _ _ _ _, hv3, .inl rfl, .inl rfl, ?_⟩, ?_⟩
      · obtain ⟨e1, e2, e3, e4⟩ := hz2.ge
        exact ⟨e1, e2, e3, e4, by omega⟩
      · obtain ⟨e1, e2, e3, e4⟩ := hz2.ge
        refine ((hb0.mono hB).trans (hk2.below (by omega) (fun k hk e => by omega))).trans (hk3.below hBw ?_)
        rintro k hk (e | e | e | e)
        · omega
        · omega
        · omega
        · simp [Value.ownBlock] at e
  have HC := hid hcall
  clear h hcall
  go_enter Tryz.func20, Tryz.ntmps20
  go_wp2_with (
    go_at_call 76
    refine HC.out.mono ?_
    rintro e w3 ⟨rfl, hx⟩
    have HX := hid hx
    clear hx)
  go_ret
  exact ⟨rfl, HX.out⟩

end

section
variable {B : Nat} {w : World} {d L Nb Fb p : Nat} {nm : ByteArray} {room limit : Int} {sf : Array MapEntry} {st rd : Int} {safe : List Int} {cs : List Chg} {data : List Int} {fresh : List Bool} {peak : Int} {nn : Nat} {xs : List Value} {vn k1 k2 : Value} {pend : List Value} {vs vp vd vf : Value} {cL bL cN bN cF : Nat}

set_option maxRecDepth 100000 in
set_option maxHeartbeats 1600000 in
theorem create_old (h : One B w d L Nb Fb p nm room limit sf st rd safe cs data fresh peak nn xs vn k1 k2 pend vs vp vd vf cL bL cN bN cF) (hok : nmOK nm = true) (hsm : nm.size ≤ maxLen) :
    Calls Tryz.prog 20 #[.pointer (some ⟨d, 0, none⟩), .string nm] w fun x w' => x = .returned (.int .i64 7) ∧ Below w.heap.size w w' := by
  have hmf : ∀ (fn : Fn) (first cap : Array Value) (w : World), (Instr.makeFunc fn first cap).run Tryz.prog w = .ok (.func fn first cap) w := fun _ _ _ _ => rfl
  have hcall : Calls Tryz.prog 76 #[.pointer (some ⟨d, 0, none⟩), .agg #[.slice (some ⟨w.heap.size + 1 + 1, 0, none⟩) 1 1, .bool true, .int .i64 0], .func (.func 77) #[] #[.pointer (some ⟨w.heap.size, 0, none⟩), .pointer (some ⟨w.heap.size + 1, 0, none⟩)]]
      (((w.alloc (.cells #[.pointer (some ⟨d, 0, none⟩)] 22)).alloc (.cells #[.string nm] 9)).alloc (.cells #[.string nm] 9)) fun x w3 => x = .returned (.int .i64 7) ∧ Below w.heap.size w w3 := by
    have hb0 : Below w.heap.size w (((w.alloc (.cells #[.pointer (some ⟨d, 0, none⟩)] 22)).alloc (.cells #[.string nm] 9)).alloc (.cells #[.string nm] 9)) := (((Below.refl _ _).alloc (Nat.le_refl _) _).alloc (by simp) _).alloc (by simp; omega) _
    have g2 : (((w.alloc (.cells #[.pointer (some ⟨d, 0, none⟩)] 22)).alloc (.cells #[.string nm] 9)).alloc (.cells #[.string nm] 9)).cell? ⟨w.heap.size + 1 + 1, 0, none⟩ = some (.string nm) := by simp [go_sem]
    have hsz : (((w.alloc (.cells #[.pointer (some ⟨d, 0, none⟩)] 22)).alloc (.cells #[.string nm] 9)).alloc (.cells #[.string nm] 9)).heap.size = w.heap.size + 3 := by simp
    obtain ⟨W, hW⟩ : ∃ W, W = (((w.alloc (.cells #[.pointer (some ⟨d, 0, none⟩)] 22)).alloc (.cells #[.string nm] 9)).alloc (.cells #[.string nm] 9)) := ⟨_, rfl⟩
    rw [← hW] at hb0 g2 hsz ⊢
    clear hW
    have hba : Below W.heap.size W (W.alloc (.cells #[.slice (some ⟨w.heap.size + 1 + 1, 0, none⟩) 1 1, .bool true, .int .i64 0] 104)) := (Below.refl _ _).alloc (Nat.le_refl _) _
    refine stroke_no d 77 _ _ _ (.pointer none) _ 7 W (fun w1 => Below w.heap.size w w1) rfl rfl rfl rfl ?_
    have hO := (h.below hb0).below hba
    obtain ⟨c0, c1, c2, c3, c4, c5, c6, c7, c8, c9, c10, c11⟩ := hO.disk.cells
    refine (find_exists d (w.heap.size + 1 + 1) Nb nm _ cN 0 1 _ c7 c4 hO.hN ((hba.cell (World.block_lt_of_cell? _ _ g2)).trans g2) hok hsm (by simp [Instr.findNow, Instr.sameNow, beq_self])).mono ?_
    rintro e w1 ⟨rfl, hb⟩
    exact ⟨rfl, (hb0.trans (hba.mono (by omega))).trans (hb.mono (by simp; omega))⟩
  have HC := hid hcall
  clear h hcall
  go_enter Tryz.func20, Tryz.ntmps20
  go_wp2_with (
    go_at_call 76
    refine HC.out.mono ?_
    rintro e w3 ⟨rfl, hx⟩
    have HX := hid hx
    clear hx)
  go_ret
  exact ⟨rfl, HX.out⟩

end
end Go.Proofs.YtlmompdfombgeaaGreat

namespace Go.Proofs.YtlmompdfombgeaaGreat
open Go.RowKit Go.MapKept

theorem next_past (w : World) (ty : TypeId) (r m c b : Nat) (key val : Value) (hr : w.heap[r]? = some (.mapIter (some m) c #[b] c)) (hb : w.heap[m]? = some (.map #[{ key := key, val := val, born := b }] c)) (hbc : b < c) :
    (Instr.next (.pointer (some ⟨r, 0, none⟩)) false ty).run Tryz.prog w = .ok (.tuple #[.bool false]) w := by
  have h1 : ¬ c ≤ b := by omega
  simp only [Instr.next, getObj, Sem.run_bind, Sem.run, hr, hb, Result.andThen]
  simp [h1, choose, Sem.run, Question.forced]

set_option maxRecDepth 100000 in
set_option maxHeartbeats 1600000 in
theorem reached_one (d L Nb p cL bL cN bN : Nat) (nm : ByteArray) (w : World) (c2 : w.cell? ⟨d, 2, none⟩ = some (.map (some L))) (hL : w.heap[L]? = some (.map #[{ key := .int .i64 1, val := .pointer (some ⟨p, 0, none⟩), born := bL }] cL)) (hN : w.heap[Nb]? = some (.map #[{ key := .string nm, val := .int .i64 1, born := bN }] cN)) (hbc : bN < cN) :
    Calls Tryz.prog 91 #[.pointer (some ⟨d, 0, none⟩), .map (some Nb)] w fun x w' => x = .returned (.map (some w.heap.size)) ∧ w'.heap[w.heap.size]? = some (.map #[{ key := .int .i64 1, val := .pointer (some ⟨p, 0, none⟩), born := 0 }] 1) ∧ Below w.heap.size w w' := by
  have hmm := @run_makeMap Tryz.prog
  have hr := run_range_map (P := Tryz.prog) (w.alloc (.map #[] 0)) 47 9 3 Nb _ cN Tryz.underlying47 (hp_alloc hN _)
  have hn1 := fun ty => next_one (w.alloc (.map #[] 0)) ty Nb cN bN _ _ (hp_alloc hN _) hbc
  have he := entry_one (w.alloc (.map #[] 0)) Nb cN bN _ _ (hp_alloc hN (.map #[] 0))
  have hl := look_found (w := (w.alloc (.map #[] 0)).alloc (.mapIter (some Nb) cN #[bN] cN)) Tryz.underlying46 Tryz.underlying3 (hp_alloc (hp_alloc hL _) _) (key_int 1) (show Instr.findNow (.int .i64) (.int .i64 1) _ 0 = some (some (0, .pointer (some ⟨p, 0, none⟩))) by simp [Instr.findNow, Instr.sameNow]) false
  have hdl := World.block_lt_of_cell? _ _ c2
  have hNl := hp_lt hN
  have es : (w.alloc (.map #[] 0)).heap.size = w.heap.size + 1 := by simp
  rw [es] at hr hn1 he
  simp only [Bool.false_eq_true, if_false] at hl
  have HN := hid hN
  clear hL hN es
  go_enter Tryz.func91, Tryz.ntmps91
  go_wp2
  refine wp_loop_rounds 2 ?_
  rw [rounds_succ]
  go_wp2_with (
    at_mapUpdate
    refine wpList_upd_new _ rfl _ _ _ 46 rfl 3 100 (.int .i64) Tryz.underlying46 Tryz.underlying3 w.heap.size #[] 0 rfl (hp_alloc (hp_new _ _) _) (.int .i64 1) (.pointer (some ⟨p, 0, none⟩)) rfl rfl (key_int _) rfl ?_
    intro w2 hb2 hg2 hs2)
  rw [rounds_succ]
  have hi2 : w2.heap[w.heap.size + 1]? = some (.mapIter (some Nb) cN #[bN] cN) := (hg2.out.block (w.heap.size + 1) (by simp) (by simp)).trans (by
    have := hp_new (w.alloc (.map #[] 0)) (.mapIter (some Nb) cN #[bN] cN)
    simpa using this)
  have hN2 := (hg2.out.block Nb (by simp; omega) (by simp; omega)).trans (hp_alloc (hp_alloc HN.out _) _)
  have hn2 := fun ty => next_past w2 ty (w.heap.size + 1) Nb cN bN _ _ hi2 hN2 hbc
  clear hi2 hN2
  go_wp2
  go_ret
  exact ⟨rfl, by simpa using hb2.out, (((Below.refl _ _).alloc (Nat.le_refl _) _).alloc (by simp) _).grown hg2.out (by simp; omega) (fun k e => by cases e; exact Nat.le_refl _)⟩

/-- Another disk about the same file. -/
theorem One.about {B : Nat} {w w' : World} {d L Nb Fb p : Nat} {nm : ByteArray} {room limit : Int} {sf : Array MapEntry} {st rd : Int} {safe : List Int} {cs : List Chg} {data : List Int} {fresh : List Bool} {peak : Int} {nn : Nat} {xs : List Value} {vn k1 k2 : Value} {pend : List Value} {vs vp vd vf : Value} {cL bL cN bN cF : Nat}
    (h : One B w d L Nb Fb p nm room limit sf st rd safe cs data fresh peak nn xs vn k1 k2 pend vs vp vd vf cL bL cN bN cF) (hk : Kept (fun k => k = d) w w')
    {L' Nb' Fb' : Nat} {sf' : Array MapEntry} {st' rd' : Int} {nn' : Nat} {xs' : List Value} {vn' : Value} {cL' bL' cN' bN' cF' : Nat}
    (hD : DiskB w' d room limit (.map (some L')) 1 (.map (some Nb')) (.map (some Fb')) vn' false st' k1 rd' k2)
    (hL : w'.heap[L']? = some (.map #[{ key := .int .i64 1, val := .pointer (some ⟨p, 0, none⟩), born := bL' }] cL')) (hN : w'.heap[Nb']? = some (.map #[{ key := .string nm, val := .int .i64 1, born := bN' }] cN')) (hF : w'.heap[Fb']? = some (.map sf' cF')) (nf : Nb' ≠ Fb') (bl : bL' < cL') (bn : bN' < cN') (nam : w'.ownsRow B 121 3 vn' nn' xs') (ge : B ≤ L' ∧ B ≤ Nb' ∧ B ≤ Fb') :
    One B w' d L' Nb' Fb' p nm room limit sf' st' rd' safe cs data fresh peak nn' xs' vn' k1 k2 pend vs vp vd vf cL' bL' cN' bN' cF' := by
  have hd := h.disk
  refine ⟨hD, hL, hN, hF, nf, bl, bn, h.file.kept hk (fun e => hp_ne hd h.file.blk (by simp) e.symm) ?_ ?_ ?_ ?_, h.pen.kept hk ?_ (.inl rfl) (.inl rfl), nam, h.kn1.kept hk ?_, h.kn2.kept hk ?_, ⟨h.ge.1, ge.1, ge.2.1, ge.2.2, h.ge.2.2.2.2⟩⟩
  · intro k hq e; subst e; exact own_ne_blk h.file.os hd (by decide) hq
  · intro k hq e; subst e; exact own_ne_blk h.file.op hd (by decide) hq
  · intro k hq e; subst e; exact own_ne_blk h.file.od hd (by decide) hq
  · intro k hq e; subst e; exact own_ne_blk h.file.of hd (by decide) hq
  · intro k cs a _ _ e; subst e; exact hp_ne hd a (by simp) rfl
  · intro b c a e; subst e; exact hp_ne hd a (by simp) rfl
  · intro b c a e; subst e; exact hp_ne hd a (by simp) rfl

section
variable {B : Nat} {w : World} {d L Nb Fb p : Nat} {nm : ByteArray} {room limit : Int} {sf : Array MapEntry} {st rd : Int} {safe : List Int} {cs : List Chg} {data : List Int} {fresh : List Bool} {peak : Int} {nn : Nat} {xs : List Value} {vn k1 k2 : Value} {pend : List Value} {vs vp vd vf : Value} {cL bL cN bN cF : Nat}

set_option maxRecDepth 100000 in
set_option maxHeartbeats 1600000 in
theorem settle_one (h : One B w d L Nb Fb p nm room limit sf st rd safe cs data fresh peak nn xs vn k1 k2 pend vs vp vd vf cL bL cN bN cF) (hB : B ≤ w.heap.size) (Nc cM bM : Nat) (hM : w.heap[Nc]? = some (.map #[{ key := .string nm, val := .int .i64 1, born := bM }] cM)) (hbm : bM < cM) (hge : B ≤ Nc) :
    Calls Tryz.prog 86 #[.pointer (some ⟨d, 0, none⟩), .map (some Nc)] w fun x w' => x = .returned (.tuple #[]) ∧ ∃ L' F', One B w' d L' Nc F' p nm room limit #[{ key := .string nm, val := .int .i64 1, born := bM }] st rd safe cs data fresh peak 0 [] (.slice none 0 0) k1 k2 pend vs vp vd vf 1 0 cM bM cM ∧ Below B w w' ∧ Kept (fun k => k = d) w w' := by
  obtain ⟨c0, c1, c2, c3, c4, c5, c6, c7, c8, c9, c10, c11⟩ := h.disk.cells
  have ff := h.disk.free
  have hdl := hp_lt h.disk
  have hMl := hp_lt hM
  have hdM : d ≠ Nc := hp_ne h.disk hM (by simp)
  have H := hid h
  have HM := hid hM
  have hk3 : Kept (fun k => k = d) w ((((w.setCell ⟨d, 4, none⟩ (.map (some Nc))).setCell ⟨d, 5, none⟩ (.map (some w.heap.size))).setCell ⟨d, 6, none⟩ (.slice none 0 0)).alloc (.map #[{ key := .string nm, val := .int .i64 1, born := bM }] cM)) :=
    ((((Kept.refl (fun k => k = d) w).setCell (p := ⟨d, 4, none⟩) (fun _ => rfl) _).setCell (p := ⟨d, 5, none⟩) (fun _ => rfl) _).setCell (p := ⟨d, 6, none⟩) (fun _ => rfl) _).alloc _
  have hD3 : DiskB ((((w.setCell ⟨d, 4, none⟩ (.map (some Nc))).setCell ⟨d, 5, none⟩ (.map (some w.heap.size))).setCell ⟨d, 6, none⟩ (.slice none 0 0)).alloc (.map #[{ key := .string nm, val := .int .i64 1, born := bM }] cM)) d room limit (.map (some L)) 1 (.map (some Nc)) (.map (some w.heap.size)) (.slice none 0 0) false st k1 rd k2 :=
    hp_alloc (set_block (i := 6) (set_block (i := 5) (set_block (i := 4) h.disk _) _) _) _
  have hF3 : ((((w.setCell ⟨d, 4, none⟩ (.map (some Nc))).setCell ⟨d, 5, none⟩ (.map (some w.heap.size))).setCell ⟨d, 6, none⟩ (.slice none 0 0)).alloc (.map #[{ key := .string nm, val := .int .i64 1, born := bM }] cM)).heap[w.heap.size]? = some (.map #[{ key := .string nm, val := .int .i64 1, born := bM }] cM) := by
    have := hp_new (((w.setCell ⟨d, 4, none⟩ (.map (some Nc))).setCell ⟨d, 5, none⟩ (.map (some w.heap.size))).setCell ⟨d, 6, none⟩ (.slice none 0 0)) (.map #[{ key := .string nm, val := .int .i64 1, born := bM }] cM)
    simpa [World.setCell] using this
  have hs3 : ((((w.setCell ⟨d, 4, none⟩ (.map (some Nc))).setCell ⟨d, 5, none⟩ (.map (some w.heap.size))).setCell ⟨d, 6, none⟩ (.slice none 0 0)).alloc (.map #[{ key := .string nm, val := .int .i64 1, born := bM }] cM)).heap.size = w.heap.size + 1 := by simp [World.setCell]
  have hL3 := hp_kept h.hL hk3 (fun e => hp_ne h.disk h.hL (by simp) e.symm)
  have hM3 := hp_kept hM hk3 (fun e => hdM e.symm)
  obtain ⟨W, hW⟩ : ∃ W, W = ((((w.setCell ⟨d, 4, none⟩ (.map (some Nc))).setCell ⟨d, 5, none⟩ (.map (some w.heap.size))).setCell ⟨d, 6, none⟩ (.slice none 0 0)).alloc (.map #[{ key := .string nm, val := .int .i64 1, born := bM }] cM)) := ⟨_, rfl⟩
  rw [← hW] at hk3 hD3 hF3 hs3 hL3 hM3
  have HW := hid hW
  have HI := hid (And.intro hk3 (And.intro hD3 (And.intro hF3 (And.intro hs3 (And.intro hL3 hM3)))))
  have hcall := reached_one d L Nc p cL bL cM bM nm W hD3.cells.2.2.1 hL3 hM3 hbm
  rw [hW] at hcall
  have HCall := hid hcall
  clear h hM hk3 hD3 hF3 hs3 hL3 hM3 hW hcall
  go_enter Tryz.func86, Tryz.ntmps86
  go_wp2_with (first
    | (go_at_call 90
       refine (mapsClone_any Nc _ cM _ HM.out).mono ?_
       rintro e w1 ⟨rfl, rfl⟩)
    | (go_at_call 91
       refine HCall.out.mono ?_
       rintro e w2 ⟨rfl, hb2⟩
       rw [← HW.out] at hb2
       have hd2 := (show DiskB w2 d room limit (.map (some L)) 1 (.map (some Nc)) (.map (some w.heap.size)) (.slice none 0 0) false st k1 rd k2 from hp_below HI.out.2.1 hb2.2 (hp_lt HI.out.2.1))
       obtain ⟨-, -, y2, -⟩ := hd2.cells
       have yf := hd2.free
       have HB2 := hid (And.intro hd2 hb2)
       clear hd2 hb2))
  go_end0
  obtain ⟨hk3, hD3, hF3, hs3, hL3, hM3⟩ := HI.out
  obtain ⟨hd2, hm2, hb2⟩ := HB2.out
  have h := H.out
  rw [hs3] at hm2
  have hz2 := hb2.size
  have hkA : Kept (fun k => k = d) w w2 := hk3.trans (Kept.ofBelow hb2) (fun _ _ e => e.elim)
  have hkB : Kept (fun k => k = d) w (w2.setCell ⟨d, 2, none⟩ (.map (some (w.heap.size + 1)))) := hkA.setCell (p := ⟨d, 2, none⟩) (fun _ => rfl) _
  have hF4 := hp_set (hp_below hF3 hb2 (by omega)) (p := ⟨d, 2, none⟩) (show w.heap.size ≠ d by omega) (.map (some (w.heap.size + 1)))
  have hM4 := hp_set (hp_below hM3 hb2 (hp_lt hM3)) (p := ⟨d, 2, none⟩) (fun e => hdM e.symm) (.map (some (w.heap.size + 1)))
  have hL4 := hp_set hm2 (p := ⟨d, 2, none⟩) (show w.heap.size + 1 ≠ d by omega) (.map (some (w.heap.size + 1)))
  refine ⟨rfl, w.heap.size + 1, w.heap.size, h.about hkB (set_block (i := 2) hd2 _) hL4 hM4 hF4 (by omega) (by omega) hbm (owns_nil _ _ _ _) ⟨by omega, hge, hB⟩, hkB.below hB (fun k hk e => by have := h.ge; omega), hkB⟩

set_option maxRecDepth 100000 in
set_option maxHeartbeats 1600000 in
theorem syncNames1_one (h : One B w d L Nb Fb p nm room limit sf st rd safe cs data fresh peak nn xs vn k1 k2 pend vs vp vd vf cL bL cN bN cF) (hB : B ≤ w.heap.size) (f : Value) (xd : Nat) (hxd : w.cell? ⟨xd, 0, none⟩ = some (.pointer (some ⟨d, 0, none⟩))) :
    Calls Tryz.prog 85 #[f, .pointer (some ⟨xd, 0, none⟩)] w fun x w' => x = .returned (.int .i64 0) ∧ ∃ L' F', One B w' d L' Nb F' p nm room limit #[{ key := .string nm, val := .int .i64 1, born := bN }] st rd safe cs data fresh peak 0 [] (.slice none 0 0) k1 k2 pend vs vp vd vf 1 0 cN bN cN ∧ Below B w w' := by
  obtain ⟨c0, c1, c2, c3, c4, c5, c6, c7, c8, c9, c10, c11⟩ := h.disk.cells
  have hcall := settle_one (h.kept (w' := w.drew) (S := fun _ => False) ⟨rfl, rfl, rfl, Nat.le_refl _, fun _ _ _ => rfl⟩ (fun _ e => e)) hB Nb cN bN h.hN h.bn h.ge.2.2.1
  have HC := hid hcall
  clear h hcall
  go_enter Tryz.func85, Tryz.ntmps85
  go_wp2_with fail
  go_region_with (
    go_at_call 86
    refine HC.out.mono ?_
    rintro e w2 ⟨rfl, hx⟩
    have HX := hid hx
    clear hx)
  all_goals
    go_wp2
    go_ret
    obtain ⟨L', F', q1, q2, -⟩ := HX.out
    exact ⟨rfl, L', F', q1, ⟨q2.os, q2.tape, q2.output, q2.size, q2.block⟩⟩

set_option maxRecDepth 100000 in
set_option maxHeartbeats 1600000 in
theorem syncNames_one (h : One B w d L Nb Fb p nm room limit sf st rd safe cs data fresh peak nn xs vn k1 k2 pend vs vp vd vf cL bL cN bN cF) (hB : B ≤ w.heap.size) (hst0 : 0 ≤ st) (hst : st ≤ 1000000) :
    Calls Tryz.prog 24 #[.pointer (some ⟨d, 0, none⟩)] w fun x w' => x = .returned (.int .i64 0) ∧ ∃ L' F', One B w' d L' Nb F' p nm room limit #[{ key := .string nm, val := .int .i64 1, born := bN }] (st + 1) rd safe cs data fresh peak 0 [] (.slice none 0 0) k1 k2 pend vs vp vd vf 1 0 cN bN cN ∧ Below B w w' := by
  have hmf : ∀ (fn : Fn) (first cap : Array Value) (w : World), (Instr.makeFunc fn first cap).run Tryz.prog w = .ok (.func fn first cap) w := fun _ _ _ _ => rfl
  have hcall : Calls Tryz.prog 76 #[.pointer (some ⟨d, 0, none⟩), .agg #[.slice none 0 0, .bool false, .int .i64 0], .func (.func 85) #[] #[.pointer (some ⟨w.heap.size, 0, none⟩)]]
      (w.alloc (.cells #[.pointer (some ⟨d, 0, none⟩)] 22)) fun x w3 => x = .returned (.int .i64 0) ∧ ∃ L' F', One B w3 d L' Nb F' p nm room limit #[{ key := .string nm, val := .int .i64 1, born := bN }] (st + 1) rd safe cs data fresh peak 0 [] (.slice none 0 0) k1 k2 pend vs vp vd vf 1 0 cN bN cN ∧ Below B w w3 := by
    have hb0 : Below w.heap.size w (w.alloc (.cells #[.pointer (some ⟨d, 0, none⟩)] 22)) := (Below.refl _ _).alloc (Nat.le_refl _) _
    have g0 : (w.alloc (.cells #[.pointer (some ⟨d, 0, none⟩)] 22)).cell? ⟨w.heap.size, 0, none⟩ = some (.pointer (some ⟨d, 0, none⟩)) := by simp [go_sem]
    have hdl := hp_lt h.disk
    have hsz : (w.alloc (.cells #[.pointer (some ⟨d, 0, none⟩)] 22)).heap.size = w.heap.size + 1 := by simp
    obtain ⟨W, hW⟩ : ∃ W, W = w.alloc (.cells #[.pointer (some ⟨d, 0, none⟩)] 22) := ⟨_, rfl⟩
    rw [← hW] at hb0 g0 hsz ⊢
    clear hW
    have hO := h.below hb0
    have hba : Below W.heap.size W (W.alloc (.cells #[.slice none 0 0, .bool false, .int .i64 0] 104)) := (Below.refl _ _).alloc (Nat.le_refl _) _
    refine stroke_ok d 85 _ _ _ (.pointer none) _ 0 W (fun w1 => Below W.heap.size W w1) (fun w2 => One B w2 d L Nb Fb p nm room limit sf (st + 1) rd safe cs data fresh peak nn xs vn k1 k2 pend vs vp vd vf cL bL cN bN cF ∧ Kept (fun k => k = d) W w2) _ (enters_of Tryz.func85 (by kernel_rfl) rfl) rfl rfl rfl ?_ ?_ ?_
    · obtain ⟨c0, c1, c2, c3, c4, c5, c6, c7, c8, c9, c10, c11⟩ := (hO.below hba).disk.cells
      refine (find_plain d _ c7).mono ?_
      rintro e w1 ⟨rfl, hb⟩
      exact ⟨rfl, hba.trans (hb.mono (by simp))⟩
    · intro w1 hb
      have hw := hO.below hb
      obtain ⟨c0, c1, c2, c3, c4, c5, c6, c7, c8, c9, c10, c11⟩ := hw.disk.cells
      refine (count_any d 8 st k1 w1 _ _ hw.disk c8 c9 hst0 (by omega) hw.kn1).mono ?_
      rintro e w2 ⟨nq, rfl, rfl⟩
      exact ⟨rfl, hw.stroke (st + 1) nq, keptd hb⟩
    · rintro w2 ⟨ho2, hk2⟩
      refine (syncNames1_one ho2 (by have := hk2.size; omega) (.pointer none) w.heap.size (hk2.cell g0 (fun e => by simp at e; omega))).mono ?_
      rintro e w3 ⟨rfl, L', F', hO3, hb⟩
      refine ⟨rfl, L', F', hO3, ?_⟩
      exact ((hb0.mono hB).trans (hk2.below (by omega) (fun k hk e => by have := h.ge; omega))).trans hb
  have HC := hid hcall
  clear h hcall
  go_enter Tryz.func24, Tryz.ntmps24
  go_wp2_with (
    go_at_call 76
    refine HC.out.mono ?_
    rintro e w3 ⟨rfl, hx⟩
    have HX := hid hx
    clear hx)
  go_ret
  exact ⟨rfl, HX.out⟩

end
end Go.Proofs.YtlmompdfombgeaaGreat
