import Derived.Test.YtlmompdfombgeaaGreatK06
import Derived.Test.YtlmompdfombgeaaGreatK01
import Derived.ProofKit
import Derived.OpenShut
import Derived.Deep.Slices
namespace Go.Proofs.YtlmompdfombgeaaGreat
open Go.RowKit Go.MapKept

theorem next_past (w : World) (ty : TypeId) (r m c b : Nat) (key val : Value) (hr : w.heap[r]? = some (.mapIter (some m) c #[b] c)) (hb : w.heap[m]? = some (.map #[{ key := key, val := val, born := b }] c)) (hbc : b < c) :
    (Instr.next (.pointer (some ⟨r, 0, none⟩)) false ty).run Tryz.prog w = .ok (.tuple #[.bool false]) w := by
  have h1 : ¬ c ≤ b := by omega
  simp only [Instr.next, getObj, Sem.run_bind, Sem.run, hr, hb, Result.andThen]
  simp [h1, choose, Sem.run, Question.forced]

set_option maxRecDepth 100000 in
set_option maxHeartbeats 1600000 in
theorem reached_one (d L Nb p cL bL cN bN : Nat) (nm : ByteArray) (w : World) (c2 : w.cell? ⟨d, 2, none⟩ = some (.map (some L))) (hL : w.heap[L]? = some (.map #[{ key := .int .i64 1, val := .pointer (some ⟨p, 0, none⟩), born := bL }] cL)) (hN : w.heap[Nb]? = some (.map #[{ key := .string nm, val := .int .i64 1, born := bN }] cN)) (hbc : bN < cN) :
    Calls Tryz.prog 91 #[.pointer (some ⟨d, 0, none⟩), .map (some Nb)] w fun x w' => x = .returned (.map (some w.heap.size)) ∧ w'.heap[w.heap.size]? = some (.map #[{ key := .int .i64 1, val := .pointer (some ⟨p, 0, none⟩), born := 0 }] 1) ∧ Below w.heap.size w w' := by
  have hmm := @run_makeMap Tryz.prog
  have hr := run_range_map (P := Tryz.prog) (w.alloc (.map #[] 0)) 47 9 3 Nb _ cN Tryz.underlying47 (hp_alloc hN _)
  have hn1 := fun ty => next_one (w.alloc (.map #[] 0)) ty Nb cN bN _ _ (hp_alloc hN _) hbc
  have he := entry_one (w.alloc (.map #[] 0)) Nb cN bN _ _ (hp_alloc hN (.map #[] 0))
  have hl := look_found (w := (w.alloc (.map #[] 0)).alloc (.mapIter (some Nb) cN #[bN] cN)) Tryz.underlying46 Tryz.underlying3 (hp_alloc (hp_alloc hL _) _) (key_int 1) (show Instr.findNow (.int .i64) (.int .i64 1) _ 0 = some (some (0, .pointer (some ⟨p, 0, none⟩))) by simp [Instr.findNow, Instr.sameNow]) false
  have hdl := World.block_lt_of_cell? _ _ c2
  have hNl := hp_lt hN
  have es : (w.alloc (.map #[] 0)).heap.size = w.heap.size + 1 := by simp
  rw [es] at hr hn1 he
  simp only [Bool.false_eq_true, if_false] at hl
  have HN := hid hN
  clear hL hN es
  go_enter Tryz.func91, Tryz.ntmps91
  go_wp2
  refine wp_loop_rounds 2 ?_
  rw [rounds_succ]
  go_wp2_with (
    at_mapUpdate
    refine wpList_upd_new _ rfl _ _ _ 46 rfl 3 100 (.int .i64) Tryz.underlying46 Tryz.underlying3 w.heap.size #[] 0 rfl (hp_alloc (hp_new _ _) _) (.int .i64 1) (.pointer (some ⟨p, 0, none⟩)) rfl rfl (key_int _) rfl ?_
    intro w2 hb2 hg2 hs2)
  rw [rounds_succ]
  have hi2 : w2.heap[w.heap.size + 1]? = some (.mapIter (some Nb) cN #[bN] cN) := (hg2.out.block (w.heap.size + 1) (by simp) (by simp)).trans (by
    have := hp_new (w.alloc (.map #[] 0)) (.mapIter (some Nb) cN #[bN] cN)
    simpa using this)
  have hN2 := (hg2.out.block Nb (by simp; omega) (by simp; omega)).trans (hp_alloc (hp_alloc HN.out _) _)
  have hn2 := fun ty => next_past w2 ty (w.heap.size + 1) Nb cN bN _ _ hi2 hN2 hbc
  clear hi2 hN2
  go_wp2
  go_ret
  exact ⟨rfl, by simpa using hb2.out, (((Below.refl _ _).alloc (Nat.le_refl _) _).alloc (by simp) _).grown hg2.out (by simp; omega) (fun k e => by cases e; exact Nat.le_refl _)⟩

/-- Another disk about the same file. -/
theorem One.about {B : Nat} {w w' : World} {d L Nb Fb p : Nat} {nm : ByteArray} {room limit : Int} {sf : Array MapEntry} {st rd : Int} {safe : List Int} {cs : List Chg} {data : List Int} {fresh : List Bool} {peak : Int} {nn : Nat} {xs : List Value} {vn k1 k2 : Value} {pend : List Value} {vs vp vd vf : Value} {cL bL cN bN cF : Nat}
    (h : One B w d L Nb Fb p nm room limit sf st rd safe cs data fresh peak nn xs vn k1 k2 pend vs vp vd vf cL bL cN bN cF) (hk : Kept (fun k => k = d) w w')
    {L' Nb' Fb' : Nat} {sf' : Array MapEntry} {st' rd' : Int} {nn' : Nat} {xs' : List Value} {vn' : Value} {cL' bL' cN' bN' cF' : Nat}
    (hD : DiskB w' d room limit (.map (some L')) 1 (.map (some Nb')) (.map (some Fb')) vn' false st' k1 rd' k2)
    (hL : w'.heap[L']? = some (.map #[{ key := .int .i64 1, val := .pointer (some ⟨p, 0, none⟩), born := bL' }] cL')) (hN : w'.heap[Nb']? = some (.map #[{ key := .string nm, val := .int .i64 1, born := bN' }] cN')) (hF : w'.heap[Fb']? = some (.map sf' cF')) (nf : Nb' ≠ Fb') (bl : bL' < cL') (bn : bN' < cN') (nam : w'.ownsRow B 121 3 vn' nn' xs') (ge : B ≤ L' ∧ B ≤ Nb' ∧ B ≤ Fb') :
    One B w' d L' Nb' Fb' p nm room limit sf' st' rd' safe cs data fresh peak nn' xs' vn' k1 k2 pend vs vp vd vf cL' bL' cN' bN' cF' := by
  have hd := h.disk
  refine ⟨hD, hL, hN, hF, nf, bl, bn, h.file.kept hk (fun e => hp_ne hd h.file.blk (by simp) e.symm) ?_ ?_ ?_ ?_, h.pen.kept hk ?_ (.inl rfl) (.inl rfl), nam, h.kn1.kept hk ?_, h.kn2.kept hk ?_, ⟨h.ge.1, ge.1, ge.2.1, ge.2.2, h.ge.2.2.2.2⟩⟩
  · intro k hq e; subst e; exact own_ne_blk h.file.os hd (by decide) hq
  · intro k hq e; subst e; exact own_ne_blk h.file.op hd (by decide) hq
  · intro k hq e; subst e; exact own_ne_blk h.file.od hd (by decide) hq
  · intro k hq e; subst e; exact own_ne_blk h.file.of hd (by decide) hq
  · intro k cs a _ _ e; subst e; exact hp_ne hd a (by simp) rfl
  · intro b c a e; subst e; exact hp_ne hd a (by simp) rfl
  · intro b c a e; subst e; exact hp_ne hd a (by simp) rfl

section
variable {B : Nat} {w : World} {d L Nb Fb p : Nat} {nm : ByteArray} {room limit : Int} {sf : Array MapEntry} {st rd : Int} {safe : List Int} {cs : List Chg} {data : List Int} {fresh : List Bool} {peak : Int} {nn : Nat} {xs : List Value} {vn k1 k2 : Value} {pend : List Value} {vs vp vd vf : Value} {cL bL cN bN cF : Nat}

set_option maxRecDepth 100000 in
set_option maxHeartbeats 1600000 in
theorem settle_one (h : One B w d L Nb Fb p nm room limit sf st rd safe cs data fresh peak nn xs vn k1 k2 pend vs vp vd vf cL bL cN bN cF) (hB : B ≤ w.heap.size) (Nc cM bM : Nat) (hM : w.heap[Nc]? = some (.map #[{ key := .string nm, val := .int .i64 1, born := bM }] cM)) (hbm : bM < cM) (hge : B ≤ Nc) :
    Calls Tryz.prog 86 #[.pointer (some ⟨d, 0, none⟩), .map (some Nc)] w fun x w' => x = .returned (.tuple #[]) ∧ ∃ L' F', One B w' d L' Nc F' p nm room limit #[{ key := .string nm, val := .int .i64 1, born := bM }] st rd safe cs data fresh peak 0 [] (.slice none 0 0) k1 k2 pend vs vp vd vf 1 0 cM bM cM ∧ Below B w w' ∧ Kept (fun k => k = d) w w' := by
  obtain ⟨c0, c1, c2, c3, c4, c5, c6, c7, c8, c9, c10, c11⟩ := h.disk.cells
  have ff := h.disk.free
  have hdl := hp_lt h.disk
  have hMl := hp_lt hM
  have hdM : d ≠ Nc := hp_ne h.disk hM (by simp)
  have H := hid h
  have HM := hid hM
  have hk3 : Kept (fun k => k = d) w ((((w.setCell ⟨d, 4, none⟩ (.map (some Nc))).setCell ⟨d, 5, none⟩ (.map (some w.heap.size))).setCell ⟨d, 6, none⟩ (.slice none 0 0)).alloc (.map #[{ key := .string nm, val := .int .i64 1, born := bM }] cM)) :=
    ((((Kept.refl (fun k => k = d) w).setCell (p := ⟨d, 4, none⟩) (fun _ => rfl) _).setCell (p := ⟨d, 5, none⟩) (fun _ => rfl) _).setCell (p := ⟨d, 6, none⟩) (fun _ => rfl) _).alloc _
  have hD3 : DiskB ((((w.setCell ⟨d, 4, none⟩ (.map (some Nc))).setCell ⟨d, 5, none⟩ (.map (some w.heap.size))).setCell ⟨d, 6, none⟩ (.slice none 0 0)).alloc (.map #[{ key := .string nm, val := .int .i64 1, born := bM }] cM)) d room limit (.map (some L)) 1 (.map (some Nc)) (.map (some w.heap.size)) (.slice none 0 0) false st k1 rd k2 :=
    hp_alloc (set_block (i := 6) (set_block (i := 5) (set_block (i := 4) h.disk _) _) _) _
  have hF3 : ((((w.setCell ⟨d, 4, none⟩ (.map (some Nc))).setCell ⟨d, 5, none⟩ (.map (some w.heap.size))).setCell ⟨d, 6, none⟩ (.slice none 0 0)).alloc (.map #[{ key := .string nm, val := .int .i64 1, born := bM }] cM)).heap[w.heap.size]? = some (.map #[{ key := .string nm, val := .int .i64 1, born := bM }] cM) := by
    have := hp_new (((w.setCell ⟨d, 4, none⟩ (.map (some Nc))).setCell ⟨d, 5, none⟩ (.map (some w.heap.size))).setCell ⟨d, 6, none⟩ (.slice none 0 0)) (.map #[{ key := .string nm, val := .int .i64 1, born := bM }] cM)
    simpa [World.setCell] using this
  have hs3 : ((((w.setCell ⟨d, 4, none⟩ (.map (some Nc))).setCell ⟨d, 5, none⟩ (.map (some w.heap.size))).setCell ⟨d, 6, none⟩ (.slice none 0 0)).alloc (.map #[{ key := .string nm, val := .int .i64 1, born := bM }] cM)).heap.size = w.heap.size + 1 := by simp [World.setCell]
  have hL3 := hp_kept h.hL hk3 (fun e => hp_ne h.disk h.hL (by simp) e.symm)
  have hM3 := hp_kept hM hk3 (fun e => hdM e.symm)
  obtain ⟨W, hW⟩ : ∃ W, W = ((((w.setCell ⟨d, 4, none⟩ (.map (some Nc))).setCell ⟨d, 5, none⟩ (.map (some w.heap.size))).setCell ⟨d, 6, none⟩ (.slice none 0 0)).alloc (.map #[{ key := .string nm, val := .int .i64 1, born := bM }] cM)) := ⟨_, rfl⟩
  rw [← hW] at hk3 hD3 hF3 hs3 hL3 hM3
  have HW := hid hW
  have HI := hid (And.intro hk3 (And.intro hD3 (And.intro hF3 (And.intro hs3 (And.intro hL3 hM3)))))
  have hcall := reached_one d L Nc p cL bL cM bM nm W hD3.cells.2.2.1 hL3 hM3 hbm
  rw [hW] at hcall
  have HCall := hid hcall
  clear h hM hk3 hD3 hF3 hs3 hL3 hM3 hW hcall
  go_enter Tryz.func86, Tryz.ntmps86
  go_wp2_with (first
    | (go_at_call 90
       refine (mapsClone_any Nc _ cM _ HM.out).mono ?_
       rintro e w1 ⟨rfl, rfl⟩)
    | (go_at_call 91
       refine HCall.out.mono ?_
       rintro e w2 ⟨rfl, hb2⟩
       rw [← HW.out] at hb2
       have hd2 := (show DiskB w2 d room limit (.map (some L)) 1 (.map (some Nc)) (.map (some w.heap.size)) (.slice none 0 0) false st k1 rd k2 from hp_below HI.out.2.1 hb2.2 (hp_lt HI.out.2.1))
       obtain ⟨-, -, y2, -⟩ := hd2.cells
       have yf := hd2.free
       have HB2 := hid (And.intro hd2 hb2)
       clear hd2 hb2))
  go_end0
  obtain ⟨hk3, hD3, hF3, hs3, hL3, hM3⟩ := HI.out
  obtain ⟨hd2, hm2, hb2⟩ := HB2.out
  have h := H.out
  rw [hs3] at hm2
  have hz2 := hb2.size
  have hkA : Kept (fun k => k = d) w w2 := hk3.trans (Kept.ofBelow hb2) (fun _ _ e => e.elim)
  have hkB : Kept (fun k => k = d) w (w2.setCell ⟨d, 2, none⟩ (.map (some (w.heap.size + 1)))) := hkA.setCell (p := ⟨d, 2, none⟩) (fun _ => rfl) _
  have hF4 := hp_set (hp_below hF3 hb2 (by omega)) (p := ⟨d, 2, none⟩) (show w.heap.size ≠ d by omega) (.map (some (w.heap.size + 1)))
  have hM4 := hp_set (hp_below hM3 hb2 (hp_lt hM3)) (p := ⟨d, 2, none⟩) (fun e => hdM e.symm) (.map (some (w.heap.size + 1)))
  have hL4 := hp_set hm2 (p := ⟨d, 2, none⟩) (show w.heap.size + 1 ≠ d by omega) (.map (some (w.heap.size + 1)))
  refine ⟨rfl, w.heap.size + 1, w.heap.size, h.about hkB (set_block (i := 2) hd2 _) hL4 hM4 hF4 (by omega) (by omega) hbm (owns_nil _ _ _ _) ⟨by omega, hge, hB⟩, hkB.below hB (fun k hk e => by have := h.ge; omega), hkB⟩

set_option maxRecDepth 100000 in
set_option maxHeartbeats 1600000 in
theorem syncNames1_one (h : One B w d L Nb Fb p nm room limit sf st rd safe cs data fresh peak nn xs vn k1 k2 pend vs vp vd vf cL bL cN bN cF) (hB : B ≤ w.heap.size) (f : Value) (xd : Nat) (hxd : w.cell? ⟨xd, 0, none⟩ = some (.pointer (some ⟨d, 0, none⟩))) :
    Calls Tryz.prog 85 #[f, .pointer (some ⟨xd, 0, none⟩)] w fun x w' => x = .returned (.int .i64 0) ∧ ∃ L' F', One B w' d L' Nb F' p nm room limit #[{ key := .string nm, val := .int .i64 1, born := bN }] st rd safe cs data fresh peak 0 [] (.slice none 0 0) k1 k2 pend vs vp vd vf 1 0 cN bN cN ∧ Below B w w' := by
  obtain ⟨c0, c1, c2, c3, c4, c5, c6, c7, c8, c9, c10, c11⟩ := h.disk.cells
  have hcall := settle_one (h.kept (w' := w.drew) (S := fun _ => False) ⟨rfl, rfl, rfl, Nat.le_refl _, fun _ _ _ => rfl⟩ (fun _ e => e)) hB Nb cN bN h.hN h.bn h.ge.2.2.1
  have HC := hid hcall
  clear h hcall
  go_enter Tryz.func85, Tryz.ntmps85
  go_wp2_with fail
  go_region_with (
    go_at_call 86
    refine HC.out.mono ?_
    rintro e w2 ⟨rfl, hx⟩
    have HX := hid hx
    clear hx)
  all_goals
    go_wp2
    go_ret
    obtain ⟨L', F', q1, q2, -⟩ := HX.out
    exact ⟨rfl, L', F', q1, ⟨q2.os, q2.tape, q2.output, q2.size, q2.block⟩⟩

set_option maxRecDepth 100000 in
set_option maxHeartbeats 1600000 in
theorem syncNames_one (h : One B w d L Nb Fb p nm room limit sf st rd safe cs data fresh peak nn xs vn k1 k2 pend vs vp vd vf cL bL cN bN cF) (hB : B ≤ w.heap.size) (hst0 : 0 ≤ st) (hst : st ≤ 1000000) :
    Calls Tryz.prog 24 #[.pointer (some ⟨d, 0, none⟩)] w fun x w' => x = .returned (.int .i64 0) ∧ ∃ L' F', One B w' d L' Nb F' p nm room limit #[{ key := .string nm, val := .int .i64 1, born := bN }] (st + 1) rd safe cs data fresh peak 0 [] (.slice none 0 0) k1 k2 pend vs vp vd vf 1 0 cN bN cN ∧ Below B w w' := by
  have hmf : ∀ (fn : Fn) (first cap : Array Value) (w : World), (Instr.makeFunc fn first cap).run Tryz.prog w = .ok (.func fn first cap) w := fun _ _ _ _ => rfl
  have hcall : Calls Tryz.prog 76 #[.pointer (some ⟨d, 0, none⟩), .agg #[.slice none 0 0, .bool false, .int .i64 0], .func (.func 85) #[] #[.pointer (some ⟨w.heap.size, 0, none⟩)]]
      (w.alloc (.cells #[.pointer (some ⟨d, 0, none⟩)] 22)) fun x w3 => x = .returned (.int .i64 0) ∧ ∃ L' F', One B w3 d L' Nb F' p nm room limit #[{ key := .string nm, val := .int .i64 1, born := bN }] (st + 1) rd safe cs data fresh peak 0 [] (.slice none 0 0) k1 k2 pend vs vp vd vf 1 0 cN bN cN ∧ Below B w w3 := by
    have hb0 : Below w.heap.size w (w.alloc (.cells #[.pointer (some ⟨d, 0, none⟩)] 22)) := (Below.refl _ _).alloc (Nat.le_refl _) _
    have g0 : (w.alloc (.cells #[.pointer (some ⟨d, 0, none⟩)] 22)).cell? ⟨w.heap.size, 0, none⟩ = some (.pointer (some ⟨d, 0, none⟩)) := by simp [go_sem]
    have hdl := hp_lt h.disk
    have hsz : (w.alloc (.cells #[.pointer (some ⟨d, 0, none⟩)] 22)).heap.size = w.heap.size + 1 := by simp
    obtain ⟨W, hW⟩ : ∃ W, W = w.alloc (.cells #[.pointer (some ⟨d, 0, none⟩)] 22) := ⟨_, rfl⟩
    rw [← hW] at hb0 g0 hsz ⊢
    clear hW
    have hO := h.below hb0
    have hba : Below W.heap.size W (W.alloc (.cells #[.slice none 0 0, .bool false, .int .i64 0] 104)) := (Below.refl _ _).alloc (Nat.le_refl _) _
    refine stroke_ok d 85 _ _ _ (.pointer none) _ 0 W (fun w1 => Below W.heap.size W w1) (fun w2 => One B w2 d L Nb Fb p nm room limit sf (st + 1) rd safe cs data fresh peak nn xs vn k1 k2 pend vs vp vd vf cL bL cN bN cF ∧ Kept (fun k => k = d) W w2) _ (enters_of Tryz.func85 (by kernel_rfl) rfl) rfl rfl rfl ?_ ?_ ?_
    · obtain ⟨c0, c1, c2, c3, c4, c5, c6, c7, c8, c9, c10, c11⟩ := (hO.below hba).disk.cells
      refine (find_plain d _ c7).mono ?_
      rintro e w1 ⟨rfl, hb⟩
      exact ⟨rfl, hba.trans (hb.mono (by simp))⟩
    · intro w1 hb
      have hw := hO.below hb
      obtain ⟨c0, c1, c2, c3, c4, c5, c6, c7, c8, c9, c10, c11⟩ := hw.disk.cells
      refine (count_any d 8 st k1 w1 _ _ hw.disk c8 c9 hst0 (by omega) hw.kn1).mono ?_
      rintro e w2 ⟨nq, rfl, rfl⟩
      exact ⟨rfl, hw.stroke (st + 1) nq, keptd hb⟩
    · rintro w2 ⟨ho2, hk2⟩
      refine (syncNames1_one ho2 (by have := hk2.size; omega) (.pointer none) w.heap.size (hk2.cell g0 (fun e => by simp at e; omega))).mono ?_
      rintro e w3 ⟨rfl, L', F', hO3, hb⟩
      refine ⟨rfl, L', F', hO3, ?_⟩
      exact ((hb0.mono hB).trans (hk2.below (by omega) (fun k hk e => by have := h.ge; omega))).trans hb
  have HC := hid hcall
  clear h hcall
  go_enter Tryz.func24, Tryz.ntmps24
  go_wp2_with (
    go_at_call 76
    refine HC.out.mono ?_
    rintro e w3 ⟨rfl, hx⟩
    have HX := hid hx
    clear hx)
  go_ret
  exact ⟨rfl, HX.out⟩

end
end Go.Proofs.YtlmompdfombgeaaGreat

namespace Go.Proofs.YtlmompdfombgeaaGreat
open Go.RowKit Go.MapKept

set_option maxHeartbeats 800000 in
theorem round_small (v n : Int) (w : World) (h0 : 0 ≤ v) (h1 : v < n) (h2 : n ≤ 1000000000) : Calls Tryz.prog 94 #[.int .i64 v, .int .i64 n] w fun x w' => x = .returned (.int .i64 v) ∧ w' = w := by
  have e1 : v % n = v := Int.emod_eq_of_lt h0 h1
  have e2 : (v + n) % n = v := by rw [Int.add_emod_right, e1]
  have hn : ¬ n = 0 := by omega
  have hn0 : 0 < n := by omega
  have hv : v ≤ 1000000000 := by omega
  have hn1 : 0 ≤ n := by omega
  have H1 := hid e1
  have H2 := hid e2
  clear e1 e2
  go_enter Tryz.func94, Tryz.ntmps94
  go_wp2
  go_ret
  refine ⟨?_, rfl⟩
  have h3 : (v + n).tmod n = v := by rw [Int.tmod_eq_emod_of_nonneg (by omega), H2.out]
  show Ending.returned (.int .i64 ((wrap64 (v % n + n)).tmod n)) = _
  rw [H1.out, show wrap64 (v + n) = v + n by unfold wrap64; omega, h3]

/-- The bytes from lo on, ahead of k, that a change brought, are noughts. -/
def loseTo (lo k : Nat) (xs : List Int) (fs : List Bool) : List Int := xs.mapIdx fun i x => if lo ≤ i ∧ i < k ∧ fs[i]? = some true then 0 else x

theorem loseTo_len (lo k : Nat) (xs : List Int) (fs : List Bool) : (loseTo lo k xs fs).length = xs.length := by simp [loseTo]
theorem loseTo_start (lo : Nat) (xs : List Int) (fs : List Bool) : loseTo lo lo xs fs = xs := by
  apply List.ext_getElem?
  intro i
  rw [loseTo, List.getElem?_mapIdx]
  have : ∀ x, (if lo ≤ i ∧ i < lo ∧ fs[i]? = some true then (0 : Int) else x) = x := fun x => if_neg (by omega)
  simp [this]
theorem loseTo_yes (lo k : Nat) (xs : List Int) (fs : List Bool) (h : lo ≤ k) (hf : fs[k]? = some true) : (loseTo lo k xs fs).set k 0 = loseTo lo (k + 1) xs fs := by
  apply List.ext_getElem?
  intro i
  rw [List.getElem?_set, loseTo, loseTo, List.getElem?_mapIdx, List.getElem?_mapIdx]
  by_cases hi : k = i
  · subst hi
    simp only [List.length_mapIdx, if_true]
    by_cases hl : k < xs.length
    · simp [hl, h, hf]
    · simp [hl]
  · simp only [hi, if_false]
    congr 1
    funext x
    by_cases a : lo ≤ i ∧ i < k ∧ fs[i]? = some true
    · rw [if_pos a, if_pos ⟨a.1, by omega, a.2.2⟩]
    · rw [if_neg a, if_neg (fun b => a ⟨b.1, by omega, b.2.2⟩)]
theorem loseTo_no (lo k : Nat) (xs : List Int) (fs : List Bool) (hf : fs[k]? = some false) : loseTo lo k xs fs = loseTo lo (k + 1) xs fs := by
  apply List.ext_getElem?
  intro i
  rw [loseTo, loseTo, List.getElem?_mapIdx, List.getElem?_mapIdx]
  congr 1
  funext x
  by_cases a : lo ≤ i ∧ i < k ∧ fs[i]? = some true
  · rw [if_pos a, if_pos ⟨a.1, by omega, a.2.2⟩]
  · rw [if_neg a, if_neg (fun b => a ⟨b.1, ?_, b.2.2⟩)]
    have : i ≠ k := fun e => by subst e; rw [hf] at b; simp at b
    omega

theorem own_set {w : World} {B n g cap : Nat} {xs : List Int} (h : w.ownsRow B 5 1 (.slice (some ⟨g, 0, none⟩) n cap) n (B8 xs)) (j : Nat) (y : Int) : (w.setCell ⟨g, j, none⟩ (.int .u8 y)).ownsRow B 5 1 (.slice (some ⟨g, 0, none⟩) n cap) n (B8 (xs.set j y)) := by
  have hl : xs.length = n := by have := h.1; simp at this; omega
  rcases h.2 with ⟨h1, _⟩ | ⟨g', cap', cur, h1, hb, hg, hc, hm, hs, ht⟩
  · cases h1
  · injection h1 with e1 e2 e3
    injection e1 with e1
    injection e1 with e1
    subst e1 e3
    refine ⟨by simp [hl], .inr ⟨g, cap, cur.setIfInBounds j (.int .u8 y), rfl, hb, set_block hg _, hc, hm, by simpa using hs, ?_⟩⟩
    rw [Array.toList_setIfInBounds, List.take_set, ht, B8, B8, List.map_set]

set_option maxRecDepth 100000 in
set_option maxHeartbeats 1600000 in
theorem lose_any (B s n g h cap cap' : Nat) (xs : List Int) (fs : List Bool) (w : World) (hd : w.ownsRow B 5 1 (.slice (some ⟨g, 0, none⟩) n cap) n (B8 xs)) (hf : w.ownsRow B 4 1 (.slice (some ⟨h, 0, none⟩) n cap') n (BB fs)) (hn : n ≤ 100000000) (hs : 16 * s ≤ n) :
    Calls Tryz.prog 125 #[.agg #[.slice (some ⟨g, 0, none⟩) n cap, .slice (some ⟨h, 0, none⟩) n cap'], .int .i64 s] w fun x w' => x = .returned (.tuple #[]) ∧ w'.ownsRow B 5 1 (.slice (some ⟨g, 0, none⟩) n cap) n (B8 (loseTo (16 * s) (min (16 * s + 16) n) xs fs)) ∧ Kept (fun k => k = g) w w' := by
  have hgl := (hd.lt g rfl).2
  have hhl := (hf.lt h rfl).2
  have hgh : g ≠ h := fun e => own_ne hd hf (by decide) g rfl (by rw [e]; rfl)
  have hxl : xs.length = n := by have := hd.1; simp at this; omega
  have hfl : fs.length = n := by have := hf.1; simp at this; omega
  have HD := hid hd
  have HF := hid hf
  have HX := hid hxl
  have HL := hid hfl
  clear hd hf hxl hfl
  go_enter Tryz.func125, Tryz.ntmps125
  go_wp2
  go_loopw [5] (fun i wr => ∃ k : Nat, 16 * s ≤ k ∧ k ≤ min (16 * s + 16) n ∧ i = .int .i64 k ∧ wr.ownsRow B 5 1 (.slice (some ⟨g, 0, none⟩) n cap) n (B8 (loseTo (16 * s) k xs fs)) ∧ wr.heap[w.heap.size]? = some (.cells #[.slice (some ⟨g, 0, none⟩) n cap, .slice (some ⟨h, 0, none⟩) n cap'] 109 (0, 0)) ∧ Kept (fun k => k = g) w wr) (fun i _ => n - (intOf i).toNat)
  case atStart =>
    refine ⟨16 * s, Nat.le_refl _, by omega, by go_num, ?_, hp_new _ _, (Kept.refl _ w).alloc _⟩
    rw [loseTo_start]
    exact ownsRow_kept HD.out ((Kept.refl (fun _ => False) w).alloc _) (fun _ _ e => e)
  case round =>
    obtain ⟨k, hk1, hk2, rfl, ho, hb, hkp⟩ := hrel
    have q0 : wr.cell? ⟨w.heap.size, 0, none⟩ = some (.slice (some ⟨g, 0, none⟩) n cap) := by rw [cell_of_row wr _ 0 _ _ _ hb]; rfl
    have q1 : wr.cell? ⟨w.heap.size, 1, none⟩ = some (.slice (some ⟨h, 0, none⟩) n cap') := by rw [cell_of_row wr _ 1 _ _ _ hb]; rfl
    by_cases hlt : k < min (16 * s + 16) n
    · have hkn : k < n := by omega
      have hof := ownsRow_kept HF.out hkp (fun j hj e => by simp [Value.ownBlock] at hj; omega)
      have i1 : (k : Int) < min ((16 : Int) * s + 16) n := by omega
      have i1' : (k : Int) < min ((s : Int) * 16 + 16) n := by omega
      have i2 : (k : Int) < (n : Int) := by omega
      obtain ⟨b, hbk⟩ : ∃ b, fs[k]? = some b := ⟨fs[k]'(by rw [HL.out]; exact hkn), by simp [HL.out, hkn]⟩
      have cf : wr.cell? ⟨h, k, none⟩ = some (.bool b) := by
        have := hof.cells (g := h) rfl k (.bool b) (by simp [BB, hbk])
        rwa [add_lit, Nat.zero_add] at this
      obtain ⟨y, hy⟩ : ∃ y, (loseTo (16 * s) k xs fs)[k]? = some y := ⟨(loseTo (16 * s) k xs fs)[k]'(by rw [loseTo_len, HX.out]; exact hkn), by simp [loseTo_len, HX.out, hkn]⟩
      have cd : wr.cell? ⟨g, k, none⟩ = some (.int .u8 y) := by
        have := ho.cells (g := g) rfl k (.int .u8 y) (by simp [B8, hy])
        rwa [add_lit, Nat.zero_add] at this
      obtain ⟨cs0, hcs0⟩ := owns_block ho g rfl
      have fz := free_of_block (o := k) hcs0
      have HO := hid ho
      have HB := hid hb
      have HK := hid hkp
      have HBK := hid hbk
      clear ho hb hkp hof hcs0 hy hbk
      cases b with
      | true =>
        go_wp2
        go_roundw
        case rel =>
          refine ⟨k + 1, by omega, by omega, by go_num, ?_, ?_, ?_⟩
          · rw [← loseTo_yes _ _ _ _ hk1 HBK.out]
            exact own_set HO.out k 0
          · exact hp_set HB.out (by simp; omega) _
          · exact HK.out.setCell (p := ⟨g, k, none⟩) (fun _ => rfl) _
        case measure => simp [intOf]; omega
      | false =>
        go_wp2
        go_roundw
        case rel =>
          refine ⟨k + 1, by omega, by omega, by go_num, ?_, HB.out, HK.out⟩
          rw [← loseTo_no _ _ _ _ HBK.out]
          exact HO.out
        case measure => simp [intOf]; omega
    · have hke := hid (show k = min (16 * s + 16) n by omega)
      have i3 : ¬ ((k : Int) < min ((s : Int) * 16 + 16) n) := by omega
      have i4 : ¬ ((k : Int) < min ((16 : Int) * s + 16) n) := by omega
      have HO := hid (And.intro ho hkp)
      clear ho hkp hb
      go_wp2
      go_end0
      refine ⟨rfl, ?_, HO.out.2⟩
      rw [← hke.out]
      exact HO.out.1

end Go.Proofs.YtlmompdfombgeaaGreat

namespace Go.Proofs.YtlmompdfombgeaaGreat
open Go.RowKit

/-- v is a slice of n elements of m cells each, and these are its cells. -/
def Rf (w : World) (m : Nat) (v : Value) (n : Nat) (cs : List Value) : Prop :=
  cs.length = n * m ∧ (∀ u ∈ cs, u.oneCell' = true) ∧ ((v = .slice none 0 0 ∧ n = 0) ∨ ∃ a cap, v = .slice (some a) n cap ∧ n ≤ cap ∧ cap ≤ maxLen ∧ ∀ j u, cs[j]? = some u → w.cell? (a.add j) = some u)

theorem rf_nil (w : World) (m : Nat) : Rf w m (.slice none 0 0) 0 [] := ⟨by simp, (fun _ h => nomatch h), .inl ⟨rfl, rfl⟩⟩

theorem Rf.shape {w : World} {m : Nat} {v : Value} {n : Nat} {cs : List Value} (h : Rf w m v n cs) : ∃ ao cap, v = .slice ao n cap ∧ n ≤ cap ∧ cap ≤ maxLen := by
  rcases h.2.2 with ⟨rfl, rfl⟩ | ⟨a, cap, rfl, h1, h2, _⟩
  · exact ⟨none, 0, rfl, Nat.le_refl _, by simp [maxLen]⟩
  · exact ⟨_, _, rfl, h1, h2⟩

theorem Rf.lits {w : World} {m : Nat} {v : Value} {n : Nat} {cs : List Value} (h : Rf w m v n cs) (h0 : 0 < n) (hm : 0 < m) : ∃ b off cap, v = .slice (some ⟨b, off, none⟩) n cap ∧ n ≤ cap ∧ cap ≤ maxLen ∧ ∀ j u, cs[j]? = some u → w.cell? ⟨b, off + j, none⟩ = some u := by
  obtain ⟨hl, -, h2⟩ := h
  rcases h2 with ⟨rfl, rfl⟩ | ⟨a, cap, rfl, h3, h5, h4⟩
  · omega
  · obtain ⟨b, off, spot⟩ := a
    have hpos : 0 < cs.length := by rw [hl]; exact Nat.mul_pos h0 hm
    have c0 := h4 0 cs[0] (by simp [hpos])
    have hspot : spot = none := by simpa [Addr.add] using World.cell?_spot c0
    subst hspot
    refine ⟨b, off, cap, rfl, h3, h5, fun j u hu => ?_⟩
    have := h4 j u hu
    rwa [add_lit] at this

theorem Rf.kept {w w' : World} {m : Nat} {v : Value} {n : Nat} {cs : List Value} {S : Nat → Prop} (h : Rf w m v n cs) (hk : Kept S w w') (hn : ∀ k, v.ownBlock = some k → ¬ S k) : Rf w' m v n cs := by
  obtain ⟨h0, h1, h2⟩ := h
  refine ⟨h0, h1, ?_⟩
  rcases h2 with h2 | ⟨a, cap, rfl, h3, h5, h4⟩
  · exact .inl h2
  · refine .inr ⟨a, cap, rfl, h3, h5, fun j u hu => hk.cell (h4 j u hu) ?_⟩
    have e : (a.add j).block = a.block := by unfold Addr.add; split <;> rfl
    rw [e]
    exact hn _ rfl

theorem Rf.below {w w' : World} {m : Nat} {v : Value} {n : Nat} {cs : List Value} (h : Rf w m v n cs) (hk : Below w.heap.size w w') : Rf w' m v n cs := h.kept (Kept.ofBelow hk) (fun _ _ h => h)

theorem rf_of_owns {w : World} {B : Nat} {e : TypeId} {m : Nat} {v : Value} {n : Nat} {xs : List Value} (h : w.ownsRow B e m v n xs) (h1 : ∀ u ∈ xs, u.oneCell' = true) : Rf w m v n xs := by
  refine ⟨h.1, h1, ?_⟩
  rcases h.2 with h0 | ⟨g, cap, cur, rfl, hb, hg, hc, hm, hs, ht⟩
  · exact .inl h0
  · refine .inr ⟨_, cap, rfl, hc, hm, fun j u hu => ?_⟩
    exact h.cells (g := g) rfl j u hu

theorem Rf.sl {w : World} {v : Value} {bs : List Int} {n : Nat} (h : Rf w 1 v n (B8 bs)) : Sn w v bs := by
  have hl : bs.length = n := by simpa using h.1
  subst hl
  rcases Nat.eq_zero_or_pos bs.length with h0 | h0
  · obtain ⟨-, -, h2⟩ := h
    have hb : bs = [] := List.eq_nil_of_length_eq_zero h0
    subst hb
    rcases h2 with ⟨rfl, _⟩ | ⟨a, cap, rfl, h3, _⟩
    · exact sn_nil w
    · exact ⟨⟨_, cap, rfl, h3, fun h => absurd rfl h⟩, .inr ⟨_, _, _, rfl⟩⟩
  · obtain ⟨b, off, cap, rfl, h3, h5, h4⟩ := h.lits h0 (by omega)
    exact ⟨⟨_, cap, rfl, h3, fun _ => ⟨b, off, rfl, fun j x hx => h4 j _ (by simp [B8, hx])⟩⟩, .inr ⟨_, _, _, rfl⟩⟩

/-- Any row onto an owned one. -/
theorem append_rf (w : World) (ty : TypeId) (B : Nat) (t e : TypeId) (z : Value) (m bytes : Nat) (ht : Tryz.prog.underlying t = some (.slice e)) (hinfo : (Tryz.prog.info? e).map (fun i => (i.zero, i.size, i.bytes)) = some (some z, m, bytes)) (hzs : z.cells.size = m) (hm : 0 < m)
    (v : Value) (n : Nat) (xs : List Value) (hown : w.ownsRow B e m v n xs) (sv : Value) (k : Nat) (ys : List Value) (hs : Rf w m sv k ys) (hl : (n + k) * bytes ≤ 140737488355328) (hl2 : n + k ≤ maxLen) (hbase : B ≤ w.heap.size) :
    ∃ v' w', (Builtin.append_ #[t, t] ty #[v, sv]).run Tryz.prog w = .ok v' w' ∧ w'.ownsRow B e m v' (n + k) (xs ++ ys) ∧ w.grownBy w' v.ownBlock ∧ (v'.ownBlock = v.ownBlock ∨ v'.ownBlock = some w.heap.size) := by
  obtain ⟨i0, hi, hz0, hz1, hz2⟩ := info_parts hinfo
  obtain ⟨h0, h1, h2⟩ := hs
  rcases h2 with ⟨rfl, rfl⟩ | ⟨a, cap, rfl, h3, h5, h4⟩
  · have hy : ys = [] := List.eq_nil_of_length_eq_zero (by simpa using h0)
    subst hy
    exact ⟨v, w, run_append_owned_none (P := Tryz.prog) (w := w) B t ty e i0 m ht hi v n xs hown, by simpa using hown, ⟨rfl, rfl, rfl, Nat.le_refl _, fun _ _ _ => rfl⟩, .inl rfl⟩
  · obtain ⟨v', w', hr, q1, q2, _, q4⟩ := run_append_own_at (P := Tryz.prog) w B t ty e i0 z m bytes ht hi hz0 hz1 hz2 hzs hm v n xs hown a k cap ys h0 h4 h1 hl2 hl hbase
    exact ⟨v', w', hr, q1, q2, q4⟩

theorem wpList_append_rf (w : World) {ops : Array Oper} {rest : List Oper} {o : Oper} {a : Act} {Q : Exit → Act → World → Prop} (hgd : o.guard = none) (s x : Operand) (t e : TypeId) (z : Value) (m bytes : Nat)
    (ho : o.op = .call { callee := .builtin .append, args := #[s, x], argTypes := #[t, t] }) (ht : Tryz.prog.underlying t = some (.slice e)) (hinfo : (Tryz.prog.info? e).map (fun i => (i.zero, i.size, i.bytes)) = some (some z, m, bytes)) (hzs : z.cells.size = m) (hm : 0 < m)
    (B : Nat) (v : Value) (n : Nat) (xs : List Value) (hs : a.eval s = v) (hown : w.ownsRow B e m v n xs)
    (sv : Value) (k : Nat) (ys : List Value) (hx : a.eval x = sv) (hsn : Rf w m sv k ys) (hl : (n + k) * bytes ≤ 140737488355328) (hl2 : n + k ≤ maxLen) (hbase : B ≤ w.heap.size)
    (h : ∀ ao c w', Hid (w'.ownsRow B e m (.slice ao (n + k) c) (n + k) (xs ++ ys)) → Hid (w.grownBy w' v.ownBlock) → Hid ((Value.slice ao (n + k) c).ownBlock = v.ownBlock ∨ (Value.slice ao (n + k) c).ownBlock = some w.heap.size) → wpList Tryz.prog ops Q rest (a.put o.dst (.slice ao (n + k) c)) w') : wpList Tryz.prog ops Q (o :: rest) a w := by
  refine wpList_plain hgd fun K hK => ?_
  obtain ⟨v', w', hr, h2, h3, h4⟩ := append_rf w o.type B t e z m bytes ht hinfo hzs hm v n xs hown sv k ys hsn hl hl2 hbase
  obtain ⟨ao, c, rfl⟩ := own_shape h2
  unfold Oper.wp execOp
  simp only [ho, resolve, invoke, builtin, Sem.run_bind, Sem.run_pure, Result.andThen_ok, List.map_toArray, List.map_cons, List.map_nil, hs, hx, hr]
  exact hK _ _ (h ao c w' (hid h2) (hid h3) (hid h4))

theorem step_append_rf (w : World) {ops : Array Oper} {o : Oper} {a : Act} {K : Act → World → Prop} {Q : Exit → Act → World → Prop} {E : Prop} (hgd : o.guard = none) (s x : Operand) (t e : TypeId) (z : Value) (m bytes : Nat)
    (ho : o.op = .call { callee := .builtin .append, args := #[s, x], argTypes := #[t, t] }) (ht : Tryz.prog.underlying t = some (.slice e)) (hinfo : (Tryz.prog.info? e).map (fun i => (i.zero, i.size, i.bytes)) = some (some z, m, bytes)) (hzs : z.cells.size = m) (hm : 0 < m)
    (B : Nat) (v : Value) (n : Nat) (xs : List Value) (hs : a.eval s = v) (hown : w.ownsRow B e m v n xs)
    (sv : Value) (k : Nat) (ys : List Value) (hx : a.eval x = sv) (hsn : Rf w m sv k ys) (hl : (n + k) * bytes ≤ 140737488355328) (hl2 : n + k ≤ maxLen) (hbase : B ≤ w.heap.size)
    (h : ∀ ao c w', Hid (w'.ownsRow B e m (.slice ao (n + k) c) (n + k) (xs ++ ys)) → Hid (w.grownBy w' v.ownBlock) → Hid ((Value.slice ao (n + k) c).ownBlock = v.ownBlock ∨ (Value.slice ao (n + k) c).ownBlock = some w.heap.size) → K (a.put o.dst (.slice ao (n + k) c)) w') :
    if Region.wanted o (yielded ops a.tmps) = true then Oper.wp Tryz.prog o a w K Q else E := by
  have hw : Region.wanted o (yielded ops a.tmps) = true := by simp [Region.wanted, hgd]
  rw [if_pos hw]
  obtain ⟨v', w', hr, h2, h3, h4⟩ := append_rf w o.type B t e z m bytes ht hinfo hzs hm v n xs hown sv k ys hsn hl hl2 hbase
  obtain ⟨ao, c, rfl⟩ := own_shape h2
  unfold Oper.wp execOp
  simp only [ho, resolve, invoke, builtin, Sem.run_bind, Sem.run_pure, Result.andThen_ok, List.map_toArray, List.map_cons, List.map_nil, hs, hx, hr]
  exact h ao c w' (hid h2) (hid h3) (hid h4)

/-- The cells of one element of a flat row. -/
theorem flat_get {α : Type} (f : α → List Value) (m : Nat) (hf : ∀ x, (f x).length = m) : ∀ (xs : List α) (k c : Nat), c < m → (xs.flatMap f)[k * m + c]? = (xs[k]?).bind (fun x => (f x)[c]?)
  | [], k, c, _ => by simp
  | x :: xs, 0, c, h => by simp [List.getElem?_append_left, hf, h]
  | x :: xs, k + 1, c, h => by
    have ih := flat_get f m hf xs k c h
    rw [List.flatMap_cons, List.getElem?_append_right (by rw [hf, Nat.succ_mul]; omega), hf]
    have e : (k + 1) * m + c - m = k * m + c := by rw [Nat.succ_mul]; omega
    rw [e, ih]
    simp

theorem flat_len {α : Type} (f : α → List Value) (m : Nat) (hf : ∀ x, (f x).length = m) : ∀ xs : List α, (xs.flatMap f).length = xs.length * m
  | [] => by simp
  | x :: xs => by rw [List.flatMap_cons, List.length_append, hf, flat_len f m hf xs, List.length_cons, Nat.succ_mul]; omega

theorem add_add (a : Addr) (x y : Nat) : (a.add x).add y = a.add (x + y) := by
  unfold Addr.add
  by_cases hx : x = 0
  · subst hx; simp
  · by_cases hy : y = 0
    · subst hy; simp
    · simp [hx, hy, Nat.add_assoc]

/-- A slice whose elements are read, element by element. -/
theorem rf_of_trod {H : Type} {enc : TypeId × Value → H} {W : World} {base : Nat} {held : Bool} {fuel : Nat} {t e : TypeId} {cs : List Value} {x : DataW H × List MemPlace} {α : Type} [Inhabited α] (f : α → List Value) (p : α → Prop) (m : Nat) (hf : ∀ y, (f y).length = m) (h1 : ∀ y, ∀ u ∈ f y, u.oneCell' = true)
    (ht : Tryz.prog.underlying t = some (.slice e)) (hm : Tryz.prog.cellsOf e = m) (hel : ∀ n cs' x', DataW.trod enc Tryz.prog W base (fun _ => true) held n e cs' = some x' → ∃ y : α, p y ∧ cs' = f y)
    (h : DataW.trod enc Tryz.prog W base (fun _ => true) held fuel t cs = some x) : ∃ (v : Value) (ys : List α), cs = [v] ∧ Rf W m v ys.length (ys.flatMap f) ∧ ∀ y ∈ ys, p y := by
  rcases Go.Deep.open_slice ht h with ⟨rfl, _⟩ | ⟨a, len, cap, mm, n, D, Pl, rfl, _, hl, hcm, hmm, _, hx⟩
  · exact ⟨_, [], rfl, rf_nil W m, (fun _ h => nomatch h)⟩
  · simp only [if_true] at hmm
    subst hmm
    rw [hm] at hx
    have key : ∀ i, i < len → ∃ y : α, p y ∧ ∀ c, c < m → W.cell? ((a.add (i * m)).add c) = (f y)[c]? := by
      intro i hi
      obtain ⟨cs', q1, q2⟩ := hx i (by omega)
      obtain ⟨y, hy, rfl⟩ := hel _ _ _ q2
      exact ⟨y, hy, fun c hc => (World.cells?_some q1).2.2 c hc⟩
    obtain ⟨F, hF⟩ := Go.Deep.choose_lt key
    refine ⟨_, (List.range len).map F, rfl, ⟨flat_len f m hf _, ?_, .inr ⟨a, mm, by simp, by simpa using hl, hcm, ?_⟩⟩, ?_⟩
    · intro u hu
      obtain ⟨y, _, hy⟩ := List.mem_flatMap.1 hu
      exact h1 y u hy
    · intro j u hu
      have hmp : 0 < m := by
        rcases Nat.eq_zero_or_pos m with h0 | h0
        · have hz := flat_len f m hf ((List.range len).map F)
          rw [h0, Nat.mul_zero] at hz
          rw [List.eq_nil_of_length_eq_zero hz] at hu
          simp at hu
        · exact h0
      have hj : j = j / m * m + j % m := by rw [Nat.mul_comm]; exact (Nat.div_add_mod j m).symm
      have hc : j % m < m := Nat.mod_lt _ hmp
      rw [hj, flat_get f m hf _ _ _ hc] at hu
      rw [List.getElem?_map] at hu
      have hlt : j / m < len := by
        rcases Nat.lt_or_ge (j / m) len with h | h
        · exact h
        · rw [List.getElem?_eq_none (by simpa using h)] at hu
          simp at hu
      simp [hlt] at hu
      have := (hF (j / m) hlt).2 (j % m) hc
      rw [hu, add_add, ← hj] at this
      exact this
    · intro y hy
      simp at hy
      obtain ⟨i, hi, rfl⟩ := hy
      exact (hF i hi).1

end Go.Proofs.YtlmompdfombgeaaGreat
