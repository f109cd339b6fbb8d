import Derived.Test.YtlmompdfombgeaaGreatK05
namespace Go.Proofs.YtlmompdfombgeaaGreat
open Go.RowKit

/-- v[:k] of an owned row of bools. -/
theorem ownB_to {w : World} {B n : Nat} {v : Value} {xs : List Bool} (h : w.ownsRow B 4 1 v n (BB xs)) (k : Nat) (hk : k ≤ n) :
    ∃ rv, (∀ wx : World, (Instr.slice 107 v none (some (.int .i64 k)) none).run Tryz.prog wx = .ok rv wx) ∧ w.ownsRow B 4 1 rv k (BB (xs.take k)) ∧ rv.ownBlock = v.ownBlock := by
  have hl : xs.length = n := by have := h.1; simp at this; omega
  rcases h.2 with ⟨rfl, h0⟩ | ⟨g, cap, cur, rfl, hb, hg, hc, hm, hs, ht⟩
  · obtain rfl : k = 0 := by omega
    refine ⟨.slice none 0 0, fun wx => ?_, by simpa using owns_nil w B 4 1, rfl⟩
    rw [run_slice_h wx 107 none 0 0 Tryz.elem107 .i64 ((0 : Nat) : Int) (by omega) (by omega), size4]
    rfl
  · refine ⟨.slice (some ⟨g, 0, none⟩) k cap, fun wx => ?_, ⟨by simp [hl]; omega, .inr ⟨g, cap, cur, rfl, hb, hg, by omega, hm, hs, ?_⟩⟩, rfl⟩
    · rw [run_slice_h wx 107 (some ⟨g, 0, none⟩) n cap Tryz.elem107 .i64 k (by omega) (by omega), size4]
      simp [sliced, add_lit]
    · have : (cur.toList.take (n * 1)).take (k * 1) = (BB xs).take (k * 1) := by rw [ht]
      rw [List.take_take, Nat.min_eq_left (by omega)] at this
      rw [this, ← List.map_take]
      simp

set_option maxRecDepth 100000 in
set_option maxHeartbeats 1600000 in
theorem doCut_any (B c : Nat) (vd vf : Value) (xs : List Int) (fs : List Bool) (w : World) (hd : w.ownsRow B 5 1 vd xs.length (B8 xs)) (hf : w.ownsRow B 4 1 vf fs.length (BB fs)) (hc : c ≤ xs.length) (hc2 : c ≤ fs.length) (_hl : xs.length ≤ 1000000000) :
    Calls Tryz.prog 190 #[.int .i64 c, .agg #[vd, vf]] w fun x w' => ∃ vd' vf', x = .returned (.agg #[vd', vf']) ∧ w'.ownsRow B 5 1 vd' c (B8 (xs.take c)) ∧ w'.ownsRow B 4 1 vf' c (BB (fs.take c)) ∧ vd'.ownBlock = vd.ownBlock ∧ vf'.ownBlock = vf.ownBlock ∧ Below w.heap.size w w' := by
  obtain ⟨rd, hr1, ho1, hb1⟩ := own_to hd c hc
  obtain ⟨rf, hr2, ho2, hb2⟩ := ownB_to hf c hc2
  obtain ⟨ao, cp, rfl⟩ := own_shape hd
  obtain ⟨af, cf, rfl⟩ := own_shape hf
  obtain ⟨bo, bp, rfl⟩ := own_shape ho1
  obtain ⟨bf, bg, rfl⟩ := own_shape ho2
  have HX := hid (And.intro ho1 (And.intro ho2 (And.intro hb1 hb2)))
  clear hd hf ho1 ho2 hb1 hb2
  go_enter Tryz.func190, Tryz.ntmps190
  go_wp2
  go_region
  go_wp2
  refine bodyPost_ret (v := .agg #[.slice bo c bp, .slice bf c bg]) (by simp [results, Tryz.results190, go_sem]) rfl ?_
  obtain ⟨ho1, ho2, hb1, hb2⟩ := HX.out
  have hb : Below w.heap.size w ((w.alloc (.cells #[.slice ao xs.length cp, .slice af fs.length cf] 109)).alloc (.cells #[.slice bo c bp, .slice bf c bg] 109)).drew := (((Below.refl _ _).alloc (Nat.le_refl _) _).alloc (by simp) _).drew
  refine ⟨_, _, rfl, ?_, ?_, hb1, hb2, ?_⟩
  · exact ownsRow_kept ho1 (Kept.ofBelow hb) (fun _ _ e => e)
  · exact ownsRow_kept ho2 (Kept.ofBelow hb) (fun _ _ e => e)
  · exact hb

end Go.Proofs.YtlmompdfombgeaaGreat

namespace Go.Proofs.YtlmompdfombgeaaGreat
open Go.RowKit Go.MapKept

theorem nilAhead125 (sv : Value) (w : World) : (nilAhead 331 125 sv "treadle/disk.do").run Tryz.prog w = .ok (some false) w := by kernel_rfl
theorem method125 (sv : Value) (w : World) : (method 331 125 sv "treadle/disk.do").run Tryz.prog w = .ok (190, sv) w := by kernel_rfl

set_option maxRecDepth 100000 in
set_option maxHeartbeats 1600000 in
theorem pendCut_any (B p c : Nat) (w : World) (safe : List Int) (pend : List Value) (data : List Int) (fresh : List Bool) (peak : Int) (vs vp vd vf : Value) (h : FileAt w B p safe pend data fresh peak vs vp vd vf) (hB : B ≤ w.heap.size)
    (l1 : pend.length ≤ 1000000) (l2 : data.length ≤ 100000000) (hc : c ≤ data.length) (hc2 : c ≤ fresh.length) (_hp0 : 0 ≤ peak) (_hp1 : peak ≤ 1000000000) (hpk : (c : Int) ≤ peak) :
    Calls Tryz.prog 81 #[.pointer (some ⟨p, 0, none⟩), .iface 125 (.int .i64 c)] w fun x w' => x = .returned (.tuple #[]) ∧ ∃ vp' vd' vf', FileAt w' B p safe (pend ++ [.iface 125 (.int .i64 c)]) (data.take c) (fresh.take c) peak vs vp' vd' vf' ∧
      vd'.ownBlock = vd.ownBlock ∧ Kept (fun k => k = p ∨ vp.ownBlock = some k) w w' ∧ (vp'.ownBlock = vp.ownBlock ∨ ∃ k, w.heap.size ≤ k ∧ vp'.ownBlock = some k) ∧ vf'.ownBlock = vf.ownBlock := by
  obtain ⟨c0, c1, c2, c3, c4⟩ := cells5 h.blk
  have ff : ∀ o, w.frozen? ⟨p, o, none⟩ = false := fun o => free_of_block h.blk
  obtain ⟨ii, hii, hz0, hz1, hz2⟩ := info_parts Tryz.info171
  have hvp : vp.ownBlock ≠ some p := own_ne_blk h.op h.blk (by decide)
  have hvd : vd.ownBlock ≠ some p := own_ne_blk h.od h.blk (by decide)
  have hvf : vf.ownBlock ≠ some p := own_ne_blk h.of h.blk (by decide)
  have hvs : vs.ownBlock ≠ some p := own_ne_blk h.os h.blk (by decide)
  have hpl := hp_lt h.blk
  have hnw := World.new_ne w ⟨p, 1, none⟩ c1
  have H := hid h
  obtain ⟨ap, cp, rfl⟩ := own_shape h.op
  obtain ⟨ad, cd, rfl⟩ := own_shape h.od
  obtain ⟨af, cf, rfl⟩ := own_shape h.of
  clear h
  go_enter Tryz.func81, Tryz.ntmps81
  go_wp2_with (first
    | (at_builtin
       refine wpList_append_lies _ rfl _ _ 110 rfl B 171 ii _ 1 16 Tryz.underlying110 hii hz0 hz1 hz2 rfl (by omega) _ pend.length pend rfl (H.out.op.alloc _) ⟨w.heap.size, 0, none⟩ 1 1 [.iface 125 (.int .i64 c)] rfl rfl (World.news_of_block (cs := #[.iface 125 (.int .i64 c)]) (t := 171) (fr := (0, 0)) (heap_alloc_new w _)) (by simp [Value.oneCell']) (by omega) (by unfold maxLen; omega) (by omega) (by simp; omega) (w.heap.size + 1) (by simp) ?_
       intro gg cq w1 hown hgrow hat hgl
       have b1 := (hgrow.cell_far ⟨p, 1, none⟩ (by simp; omega) (Ne.symm hvp)).trans ((World.cell?_alloc_past _ _ _ (by simpa using hpl)).trans c1)
       have f1 := (hgrow.frozen_far ⟨p, 1, none⟩ (by simp; omega) (Ne.symm hvp)).trans ((frozen?_alloc_cells _ _ _ _).trans (ff 1))
       have HG := hid (And.intro hown (And.intro hgrow hat))
       clear hown hgrow hat))
  have hfile : FileAt (w1.setCell ⟨p, 1, none⟩ (.slice (some ⟨gg, 0, none⟩) (pend.length + 1) cq)) B p safe (pend ++ [.iface 125 (.int .i64 c)]) data fresh peak vs (.slice (some ⟨gg, 0, none⟩) (pend.length + 1) cq) (.slice ad data.length cd) (.slice af fresh.length cf) ∧ Kept (fun k => k = p ∨ (Value.slice ap pend.length cp).ownBlock = some k) w (w1.setCell ⟨p, 1, none⟩ (.slice (some ⟨gg, 0, none⟩) (pend.length + 1) cq)) ∧ ((Value.slice (some ⟨gg, 0, none⟩) (pend.length + 1) cq).ownBlock = (Value.slice ap pend.length cp).ownBlock ∨ ∃ k, w.heap.size ≤ k ∧ (Value.slice (some ⟨gg, 0, none⟩) (pend.length + 1) cq).ownBlock = some k) := by
    obtain ⟨hown, hgrow, hat⟩ := HG.out
    have h := H.out
    have g0 := (hgrow.block p (by simp; omega) (Ne.symm hvp)).trans (hp_alloc h.blk _)
    have K0 : Kept (fun k => (Value.slice ap pend.length cp).ownBlock = some k) w w1 := ((Kept.refl _ w).alloc _).grown hgrow (fun k _ e => e)
    have K1 : Kept (fun k => k = p) w1 (w1.setCell ⟨p, 1, none⟩ (.slice (some ⟨gg, 0, none⟩) (pend.length + 1) cq)) := (Kept.refl (fun k => k = p) w1).setCell (p := ⟨p, 1, none⟩) (fun _ => rfl) _
    have hgp : gg ≠ p := by
      intro e
      rcases hat with h | h
      · rw [e] at h; exact hvp h
      · omega
    refine ⟨⟨set_block (i := 1) g0 _, ?_, ?_, ?_, ?_, h.sep⟩, ?_, ?_⟩
    · exact ownsRow_kept (ownsRow_kept h.os K0 (fun k hk e => own_ne h.os h.op (by decide) k hk e)) K1 (fun k hk e => by subst e; exact hvs hk)
    · have := ownsRow_kept hown K1 (fun k hk e => by simp [Value.ownBlock] at hk; omega)
      simpa using this
    · exact ownsRow_kept (ownsRow_kept h.od K0 (fun k hk e => own_ne h.od h.op (by decide) k hk e)) K1 (fun k hk e => by subst e; exact hvd hk)
    · exact ownsRow_kept (ownsRow_kept h.of K0 (fun k hk e => own_ne h.of h.op (by decide) k hk e)) K1 (fun k hk e => by subst e; exact hvf hk)
    · exact (K0.mono (fun i _ e => .inr e)).trans K1 (fun i _ e => .inl e)
    · rcases hat with h | h
      · exact .inl h.symm
      · exact .inr ⟨gg, by omega, rfl⟩
  obtain ⟨W, hW⟩ : ∃ W, W = w1.setCell ⟨p, 1, none⟩ (.slice (some ⟨gg, 0, none⟩) (pend.length + 1) cq) := ⟨_, rfl⟩
  rw [← hW] at hfile ⊢
  obtain ⟨hf1, hk1, hgv⟩ := hfile
  have HGV := hid hgv
  clear hgv
  obtain ⟨e0, e1, e2, e3, e4⟩ := cells5 hf1.blk
  have gf : ∀ o, W.frozen? ⟨p, o, none⟩ = false := fun o => free_of_block hf1.blk
  have HF1 := hid hf1
  have HK1 := hid hk1
  have hmf : ∀ (fn : Fn) (first cap : Array Value) (w : World), (Instr.makeFunc fn first cap).run Tryz.prog w = .ok (.func fn first cap) w := fun _ _ _ _ => rfl
  have hna := nilAhead125 (.int .i64 c)
  have hmt := method125 (.int .i64 c)
  clear hf1 hk1 hW b1 f1 HG c0 c1 c2 c3 c4 ff hnw
  go_region_with (
    go_at_call 190
    refine (doCut_any B c _ _ data fresh W.drew HF1.out.od HF1.out.of hc hc2 (by omega)).mono ?_
    rintro e w2 ⟨vd', vf', rfl, hd2, hf2, hl1, hl2, hk2⟩
    obtain ⟨ad', cd', rfl⟩ := own_shape hd2
    obtain ⟨af', cf', rfl⟩ := own_shape hf2
    have hblk2 := (show w2.heap[p]? = some (.cells #[vs, .slice (some ⟨gg, 0, none⟩) (pend.length + 1) cq, .slice ad data.length cd, .slice af fresh.length cf, .int .i64 peak] 112 (0, 0)) from (hk2.block p (hp_lt HF1.out.blk)).trans HF1.out.blk)
    obtain ⟨-, -, g2, g3, -⟩ := cells5 hblk2
    have gg2 := (show ∀ o, w2.frozen? ⟨p, o, none⟩ = false from fun o => free_of_block hblk2)
    have HX := hid (And.intro hblk2 (And.intro hd2 (And.intro hf2 (And.intro hl1 (And.intro hl2 hk2)))))
    clear hd2 hf2 hl1 hl2 hk2 hblk2)
  all_goals
    have hfin : FileAt ((w2.setCell ⟨p, 2, none⟩ (.slice ad' c cd')).setCell ⟨p, 3, none⟩ (.slice af' c cf')) B p safe (pend ++ [.iface 125 (.int .i64 c)]) (data.take c) (fresh.take c) peak vs (.slice (some ⟨gg, 0, none⟩) (pend.length + 1) cq) (.slice ad' c cd') (.slice af' c cf') ∧
        Kept (fun k => k = p ∨ (Value.slice ap pend.length cp).ownBlock = some k) w ((w2.setCell ⟨p, 2, none⟩ (.slice ad' c cd')).setCell ⟨p, 3, none⟩ (.slice af' c cf')) ∧ (Value.slice ad' c cd').ownBlock = (Value.slice ad data.length cd).ownBlock ∧ (Value.slice af' c cf').ownBlock = (Value.slice af fresh.length cf).ownBlock := by
      obtain ⟨hblk2, hd2, hf2, hl1, hl2, hk2⟩ := HX.out
      have h := HF1.out
      have K2 : Kept (fun _ => False) W w2 := ⟨hk2.os, hk2.tape, hk2.output, hk2.size, fun k hk _ => hk2.block k hk⟩
      have K3 : Kept (fun k => k = p) w2 ((w2.setCell ⟨p, 2, none⟩ (.slice ad' c cd')).setCell ⟨p, 3, none⟩ (.slice af' c cf')) := ((Kept.refl (fun k => k = p) w2).setCell (p := ⟨p, 2, none⟩) (fun _ => rfl) _).setCell (p := ⟨p, 3, none⟩) (fun _ => rfl) _
      have ed : (Value.slice ad' c cd').ownBlock ≠ some p := own_ne_blk hd2 hblk2 (by decide)
      have ef : (Value.slice af' c cf').ownBlock ≠ some p := own_ne_blk hf2 hblk2 (by decide)
      have hdl : (data.take c).length = c := by simp; omega
      have hfl : (fresh.take c).length = c := by simp; omega
      refine ⟨⟨set_block (i := 3) (set_block (i := 2) hblk2 _) _, ?_, ?_, ?_, ?_, ?_⟩, ?_, hl1, hl2⟩
      · exact ownsRow_kept (ownsRow_kept h.os K2 (fun _ _ e => e)) K3 (fun k hk e => by subst e; exact hvs hk)
      · exact ownsRow_kept (ownsRow_kept h.op K2 (fun _ _ e => e)) K3 (fun k hk e => by subst e; exact own_ne_blk h.op h.blk (by decide) hk)
      · rw [hdl]
        exact ownsRow_kept hd2 K3 (fun k hk e => by subst e; exact ed hk)
      · rw [hfl]
        exact ownsRow_kept hf2 K3 (fun k hk e => by subst e; exact ef hk)
      · intro k hk e
        rw [hl1] at e
        exact h.sep k hk e
      · exact (HK1.out.trans K2 (fun _ _ e => e.elim)).trans K3 (fun i _ e => .inl e)
    obtain ⟨W2, hW2⟩ : ∃ W2, W2 = (w2.setCell ⟨p, 2, none⟩ (.slice ad' c cd')).setCell ⟨p, 3, none⟩ (.slice af' c cf') := ⟨_, rfl⟩
    rw [← hW2] at hfin ⊢
    obtain ⟨hf3, hk3, hl3⟩ := hfin
    obtain ⟨-, -, x2, -, x4⟩ := cells5 hf3.blk
    have xf : ∀ o, W2.frozen? ⟨p, o, none⟩ = false := fun o => free_of_block hf3.blk
    have HF3 := hid hf3
    have HK3 := hid (And.intro hk3 hl3)
    have hmx : max peak (c : Int) = peak := by omega
    clear hW2 hf3 hk3 hl3 HX g2 g3 gg2 HF1 HK1 e0 e1 e2 e3 e4 gf
    go_wp2_with fail
    go_region
    all_goals
      go_end0
      have h := HF3.out
      have K4 : Kept (fun k => k = p) W2 (W2.setCell ⟨p, 4, none⟩ (.int .i64 peak)).drew := ((Kept.refl (fun k => k = p) W2).setCell (p := ⟨p, 4, none⟩) (fun _ => rfl) _).drew
      refine ⟨rfl, _, _, _, ⟨set_block (i := 4) h.blk _, ownsRow_kept h.os K4 (fun k hk e => by subst e; exact hvs hk), ownsRow_kept h.op K4 (fun k hk e => by subst e; exact own_ne_blk h.op h.blk (by decide) hk), ownsRow_kept h.od K4 (fun k hk e => by subst e; exact own_ne_blk h.od h.blk (by decide) hk), ownsRow_kept h.of K4 (fun k hk e => by subst e; exact own_ne_blk h.of h.blk (by decide) hk), h.sep⟩, HK3.out.2.1, HK3.out.1.trans K4 (fun i _ e => .inl e), HGV.out, HK3.out.2.2⟩

end Go.Proofs.YtlmompdfombgeaaGreat

namespace Go.Proofs.YtlmompdfombgeaaGreat
open Go.RowKit Go.MapKept

section
variable {B : Nat} {w : World} {d L Nb Fb p : Nat} {nm : ByteArray} {room limit : Int} {sf : Array MapEntry} {st rd : Int} {safe : List Int} {cs : List Chg} {data : List Int} {m t : Nat} {peak : Int} {nn : Nat} {xs : List Value} {vn k1 k2 : Value} {pend : List Value} {vs vp vd vf : Value} {cL bL cN bN cF : Nat}

set_option maxRecDepth 100000 in
set_option maxHeartbeats 1600000 in
theorem sync1_one (h : One B w d L Nb Fb p nm room limit sf st rd safe cs data (frs m t) peak nn xs vn k1 k2 pend vs vp vd vf cL bL cN bN cF) (hB : B ≤ w.heap.size) (hl : data.length = m + t) (hm : m ≤ safe.length) (hpre : data.take m = safe.take m) (l2 : data.length ≤ 100000000) (l3 : safe.length ≤ 100000000) :
    Calls Tryz.prog 83 #[.pointer (some ⟨p, 0, none⟩)] w fun x w' => x = .returned (.int .i64 0) ∧ ∃ vs', One B w' d L Nb Fb p nm room limit sf st rd data [] data (frs (m + t) 0) data.length nn xs vn k1 k2 [] vs' (.slice none 0 0) vd vf cL bL cN bN cF ∧ Below B w w' := by
  have H := hid h
  have HC := hid (sync_any B p w safe pend data m t peak vs vp vd vf h.file hB hl hm hpre l2 l3)
  clear h
  go_enter Tryz.func83, Tryz.ntmps83
  go_wp2_with (
    go_at_call 84
    refine HC.out.mono ?_
    rintro e w2 ⟨rfl, vs', hf, hk, -⟩
    have HX := hid (And.intro hf hk)
    clear hf hk)
  go_ret
  obtain ⟨hf, hk⟩ := HX.out
  obtain ⟨q1, q2⟩ := H.out.change (hk.mono (by
    rintro i _ (e | e | e)
    · exact .inl e
    · exact .inr (.inl e)
    · exact .inr (.inr (.inr (.inr e))))) hf (Pends.nil _ _ _ _)
  exact ⟨rfl, vs', q1, q2⟩

set_option maxRecDepth 100000 in
set_option maxHeartbeats 1600000 in
theorem sync_one (h : One B w d L Nb Fb p nm room limit sf st rd safe cs data (frs m t) peak nn xs vn k1 k2 pend vs vp vd vf cL bL cN bN cF) (hB : B ≤ w.heap.size) (hl : data.length = m + t) (hm : m ≤ safe.length) (hpre : data.take m = safe.take m) (l2 : data.length ≤ 100000000) (l3 : safe.length ≤ 100000000) (hok : nmOK nm = true) (hs : nm.size ≤ maxLen) (hst0 : 0 ≤ st) (hst : st ≤ 1000000) :
    Calls Tryz.prog 23 #[.pointer (some ⟨d, 0, none⟩), .string nm] w fun x w' => x = .returned (.int .i64 0) ∧ ∃ vs', One B w' d L Nb Fb p nm room limit sf (st + 1) rd data [] data (frs (m + t) 0) data.length nn xs vn k1 k2 [] vs' (.slice none 0 0) vd vf cL bL cN bN cF ∧ Below B w w' := by
  have hmf : ∀ (fn : Fn) (first cap : Array Value) (w : World), (Instr.makeFunc fn first cap).run Tryz.prog w = .ok (.func fn first cap) w := fun _ _ _ _ => rfl
  have hcall : Calls Tryz.prog 76 #[.pointer (some ⟨d, 0, none⟩), .agg #[.slice (some ⟨w.heap.size, 0, none⟩) 1 1, .bool false, .int .i64 0], .func (.func 83) #[] #[]]
      (w.alloc (.cells #[.string nm] 9)) fun x w3 => x = .returned (.int .i64 0) ∧ ∃ vs', One B w3 d L Nb Fb p nm room limit sf (st + 1) rd data [] data (frs (m + t) 0) data.length nn xs vn k1 k2 [] vs' (.slice none 0 0) vd vf cL bL cN bN cF ∧ Below B w w3 := by
    have hb0 : Below w.heap.size w (w.alloc (.cells #[.string nm] 9)) := (Below.refl _ _).alloc (Nat.le_refl _) _
    have g2 : (w.alloc (.cells #[.string nm] 9)).cell? ⟨w.heap.size, 0, none⟩ = some (.string nm) := by simp [go_sem]
    refine stroke_there (h.below hb0) w.heap.size 0 g2 hok hs (by omega) (by omega) hst0 hst 83 _ 0 _ (enters_of Tryz.func83 (by kernel_rfl) rfl) ?_
    intro w2 ho2 hk2
    refine (sync1_one ho2 (Nat.le_trans hB (Nat.le_trans hb0.size hk2.size)) hl hm hpre l2 l3).mono ?_
    rintro e w3 ⟨rfl, vs', hO, hb⟩
    refine ⟨rfl, vs', hO, ?_⟩
    exact ((hb0.mono hB).trans (hk2.below (Nat.le_trans hB hb0.size) (fun k hk e => by have := h.ge; omega))).trans hb
  have HC := hid hcall
  clear h hcall
  go_enter Tryz.func23, Tryz.ntmps23
  go_wp2_with (
    go_at_call 76
    refine HC.out.mono ?_
    rintro e w3 ⟨rfl, hx⟩
    have HX := hid hx
    clear hx)
  go_ret
  exact ⟨rfl, HX.out⟩

end
end Go.Proofs.YtlmompdfombgeaaGreat

namespace Go.Proofs.YtlmompdfombgeaaGreat
open Go.RowKit Go.MapKept

/-- A disk without a file. -/
structure Zero (B : Nat) (w : World) (d L Nb Fb : Nat) (room limit : Int) (st rd : Int) (cL cN cF : Nat) : Prop where
  disk : DiskB w d room limit (.map (some L)) 0 (.map (some Nb)) (.map (some Fb)) (.slice none 0 0) false st (.map none) rd (.map none)
  hL : w.heap[L]? = some (.map #[] cL)
  hN : w.heap[Nb]? = some (.map #[] cN)
  hF : w.heap[Fb]? = some (.map #[] cF)
  ne : L ≠ Nb ∧ L ≠ Fb ∧ Nb ≠ Fb
  ge : B ≤ d ∧ B ≤ L ∧ B ≤ Nb ∧ B ≤ Fb

theorem Zero.below {B : Nat} {w w' : World} {d L Nb Fb : Nat} {room limit : Int} {st rd : Int} {cL cN cF : Nat} (h : Zero B w d L Nb Fb room limit st rd cL cN cF) (hk : Below w.heap.size w w') : Zero B w' d L Nb Fb room limit st rd cL cN cF :=
  ⟨hp_below h.disk hk (hp_lt h.disk), hp_below h.hL hk (hp_lt h.hL), hp_below h.hN hk (hp_lt h.hN), hp_below h.hF hk (hp_lt h.hF), h.ne, h.ge⟩

theorem Zero.stroke {B : Nat} {w : World} {d L Nb Fb : Nat} {room limit : Int} {st rd : Int} {cL cN cF : Nat} (h : Zero B w d L Nb Fb room limit st rd cL cN cF) (n : Int) (nq : Nat) : Zero B ((w.setCell ⟨d, 8, none⟩ (.int .i64 n)).drewN nq) d L Nb Fb room limit n rd cL cN cF :=
  ⟨set_block (i := 8) h.disk _, hp_set h.hL (p := ⟨d, 8, none⟩) (fun e => hp_ne h.disk h.hL (by simp) e.symm) _, hp_set h.hN (p := ⟨d, 8, none⟩) (fun e => hp_ne h.disk h.hN (by simp) e.symm) _, hp_set h.hF (p := ⟨d, 8, none⟩) (fun e => hp_ne h.disk h.hF (by simp) e.symm) _, h.ne, h.ge⟩

section
variable {B : Nat} {w : World} {d L Nb Fb : Nat} {nm : ByteArray} {room limit : Int} {st rd : Int} {cL cN cF : Nat}

set_option maxRecDepth 100000 in
set_option maxHeartbeats 1600000 in
theorem create_new (h : Zero B w d L Nb Fb room limit st rd cL cN cF) (hB : B ≤ w.heap.size) (hlim : 0 < limit) (hok : nmOK nm = true) (hs : nm.size ≤ 1000000) (hne : nm.toList.isEmpty = false) (hst0 : 0 ≤ st) (hst : st ≤ 1000000) :
    Calls Tryz.prog 20 #[.pointer (some ⟨d, 0, none⟩), .string nm] w fun x w' => x = .returned (.int .i64 0) ∧ ∃ p vs vd vf vn, One B w' d L Nb Fb p nm room limit #[] (st + 1) rd [] [] [] (frs 0 0) 0 1 [.string ⟨#[]⟩, .string nm, .int .i64 1] vn (.map none) (.map none) [] vs (.slice none 0 0) vd vf (cL + 1) cL (cN + 1) cN cF ∧ Below B w w' := by
  have hmf : ∀ (fn : Fn) (first cap : Array Value) (w : World), (Instr.makeFunc fn first cap).run Tryz.prog w = .ok (.func fn first cap) w := fun _ _ _ _ => rfl
  have hsm : nm.size ≤ maxLen := by unfold maxLen; omega
  have hcall : Calls Tryz.prog 76 #[.pointer (some ⟨d, 0, none⟩), .agg #[.slice (some ⟨w.heap.size + 1 + 1, 0, none⟩) 1 1, .bool true, .int .i64 0], .func (.func 77) #[] #[.pointer (some ⟨w.heap.size, 0, none⟩), .pointer (some ⟨w.heap.size + 1, 0, none⟩)]]
      (((w.alloc (.cells #[.pointer (some ⟨d, 0, none⟩)] 22)).alloc (.cells #[.string nm] 9)).alloc (.cells #[.string nm] 9)) fun x w3 => x = .returned (.int .i64 0) ∧ ∃ p vs vd vf vn, One B w3 d L Nb Fb p nm room limit #[] (st + 1) rd [] [] [] (frs 0 0) 0 1 [.string ⟨#[]⟩, .string nm, .int .i64 1] vn (.map none) (.map none) [] vs (.slice none 0 0) vd vf (cL + 1) cL (cN + 1) cN cF ∧ Below B w w3 := by
    have hb0 : Below w.heap.size w (((w.alloc (.cells #[.pointer (some ⟨d, 0, none⟩)] 22)).alloc (.cells #[.string nm] 9)).alloc (.cells #[.string nm] 9)) := (((Below.refl _ _).alloc (Nat.le_refl _) _).alloc (by simp) _).alloc (by simp; omega) _
    have hdl := hp_lt h.disk
    have g0 : (((w.alloc (.cells #[.pointer (some ⟨d, 0, none⟩)] 22)).alloc (.cells #[.string nm] 9)).alloc (.cells #[.string nm] 9)).cell? ⟨w.heap.size, 0, none⟩ = some (.pointer (some ⟨d, 0, none⟩)) := by simp [go_sem]
    have g1 : (((w.alloc (.cells #[.pointer (some ⟨d, 0, none⟩)] 22)).alloc (.cells #[.string nm] 9)).alloc (.cells #[.string nm] 9)).cell? ⟨w.heap.size + 1, 0, none⟩ = some (.string nm) := by simp [go_sem]
    have g2 : (((w.alloc (.cells #[.pointer (some ⟨d, 0, none⟩)] 22)).alloc (.cells #[.string nm] 9)).alloc (.cells #[.string nm] 9)).cell? ⟨w.heap.size + 1 + 1, 0, none⟩ = some (.string nm) := by simp [go_sem]
    have hsz : (((w.alloc (.cells #[.pointer (some ⟨d, 0, none⟩)] 22)).alloc (.cells #[.string nm] 9)).alloc (.cells #[.string nm] 9)).heap.size = w.heap.size + 3 := by simp
    obtain ⟨W, hW⟩ : ∃ W, W = (((w.alloc (.cells #[.pointer (some ⟨d, 0, none⟩)] 22)).alloc (.cells #[.string nm] 9)).alloc (.cells #[.string nm] 9)) := ⟨_, rfl⟩
    rw [← hW] at hb0 g0 g1 g2 hsz ⊢
    clear hW
    have hZ := h.below hb0
    have hba : Below W.heap.size W (W.alloc (.cells #[.slice (some ⟨w.heap.size + 1 + 1, 0, none⟩) 1 1, .bool true, .int .i64 0] 104)) := (Below.refl _ _).alloc (Nat.le_refl _) _
    refine stroke_ok d 77 _ _ _ (.pointer none) _ 0 W (fun w1 => Below W.heap.size W w1) (fun w2 => Zero B w2 d L Nb Fb room limit (st + 1) rd cL cN cF ∧ Kept (fun k => k = d) W w2) _ (enters_of Tryz.func77 (by kernel_rfl) rfl) rfl rfl rfl ?_ ?_ ?_
    · have hZ2 := hZ.below hba
      obtain ⟨c0, c1, c2, c3, c4, c5, c6, c7, c8, c9, c10, c11⟩ := hZ2.disk.cells
      refine (find_absent d (w.heap.size + 1 + 1) Nb nm #[] cN _ c7 c4 hZ2.hN ((hba.cell (World.block_lt_of_cell? _ _ g2)).trans g2) hok hsm rfl).mono ?_
      rintro e w1 ⟨rfl, hb⟩
      exact ⟨rfl, hba.trans (hb.mono (by simp))⟩
    · intro w1 hb
      have hw := hZ.below hb
      obtain ⟨c0, c1, c2, c3, c4, c5, c6, c7, c8, c9, c10, c11⟩ := hw.disk.cells
      refine (count_any d 8 st (.map none) w1 _ _ hw.disk c8 c9 hst0 (by omega) (.inl rfl)).mono ?_
      rintro e w2 ⟨nq, rfl, rfl⟩
      exact ⟨rfl, hw.stroke (st + 1) nq, keptd hb⟩
    · rintro w2 ⟨hz2, hk2⟩
      have hs2 := hk2.size
      have hBw : B ≤ w2.heap.size := by omega
      have hdd := hp_lt hz2.disk
      refine (create1_any B d w.heap.size (w.heap.size + 1) (.pointer none) nm w2 room limit L 0 Nb (.map (some Fb)) (.slice none 0 0) false (st + 1) (.map none) rd (.map none) #[] #[] cL cN 0 [] hz2.disk hz2.hL hz2.hN hz2.ne.1 hBw (owns_nil _ _ _ _) (by omega) (hk2.cell g0 (fun e => by simp at e; omega)) (hk2.cell g1 (fun e => by simp at e; omega)) (by omega) (by omega) (by simpa using hlim) (by omega) (by omega) hs hne rfl rfl rfl).mono ?_
      rintro e w3 ⟨rfl, p, vs, vd, vf, vn, hp, hfile, hD3, hL3, hN3, hv3, hk3, -⟩
      have hF3 := hp_kept hz2.hF hk3 (by
        rintro (e | e | e | e)
        · exact hp_ne hz2.disk hz2.hF (by simp) e.symm
        · exact hz2.ne.2.1 e.symm
        · exact hz2.ne.2.2 e.symm
        · simp [Value.ownBlock] at e)
      refine ⟨rfl, p, vs, vd, vf, vn, ⟨hD3, hL3, hN3, hF3, hz2.ne.2.2, by omega, by omega, hfile.base hBw, Pends.nil _ _ _ _, hv3, .inl rfl, .inl rfl, ?_⟩, ?_⟩
      · obtain ⟨e1, e2, e3, e4⟩ := hz2.ge
        exact ⟨e1, e2, e3, e4, by omega⟩
      · obtain ⟨e1, e2, e3, e4⟩ := hz2.ge
        refine ((hb0.mono hB).trans (hk2.below (by omega) (fun k hk e => by omega))).trans (hk3.below hBw ?_)
        rintro k hk (e | e | e | e)
        · omega
        · omega
        · omega
        · simp [Value.ownBlock] at e
  have HC := hid hcall
  clear h hcall
  go_enter Tryz.func20, Tryz.ntmps20
  go_wp2_with (
    go_at_call 76
    refine HC.out.mono ?_
    rintro e w3 ⟨rfl, hx⟩
    have HX := hid hx
    clear hx)
  go_ret
  exact ⟨rfl, HX.out⟩

end

section
variable {B : Nat} {w : World} {d L Nb Fb p : Nat} {nm : ByteArray} {room limit : Int} {sf : Array MapEntry} {st rd : Int} {safe : List Int} {cs : List Chg} {data : List Int} {fresh : List Bool} {peak : Int} {nn : Nat} {xs : List Value} {vn k1 k2 : Value} {pend : List Value} {vs vp vd vf : Value} {cL bL cN bN cF : Nat}

set_option maxRecDepth 100000 in
set_option maxHeartbeats 1600000 in
theorem create_old (h : One B w d L Nb Fb p nm room limit sf st rd safe cs data fresh peak nn xs vn k1 k2 pend vs vp vd vf cL bL cN bN cF) (hok : nmOK nm = true) (hsm : nm.size ≤ maxLen) :
    Calls Tryz.prog 20 #[.pointer (some ⟨d, 0, none⟩), .string nm] w fun x w' => x = .returned (.int .i64 7) ∧ Below w.heap.size w w' := by
  have hmf : ∀ (fn : Fn) (first cap : Array Value) (w : World), (Instr.makeFunc fn first cap).run Tryz.prog w = .ok (.func fn first cap) w := fun _ _ _ _ => rfl
  have hcall : Calls Tryz.prog 76 #[.pointer (some ⟨d, 0, none⟩), .agg #[.slice (some ⟨w.heap.size + 1 + 1, 0, none⟩) 1 1, .bool true, .int .i64 0], .func (.func 77) #[] #[.pointer (some ⟨w.heap.size, 0, none⟩), .pointer (some ⟨w.heap.size + 1, 0, none⟩)]]
      (((w.alloc (.cells #[.pointer (some ⟨d, 0, none⟩)] 22)).alloc (.cells #[.string nm] 9)).alloc (.cells #[.string nm] 9)) fun x w3 => x = .returned (.int .i64 7) ∧ Below w.heap.size w w3 := by
    have hb0 : Below w.heap.size w (((w.alloc (.cells #[.pointer (some ⟨d, 0, none⟩)] 22)).alloc (.cells #[.string nm] 9)).alloc (.cells #[.string nm] 9)) := (((Below.refl _ _).alloc (Nat.le_refl _) _).alloc (by simp) _).alloc (by simp; omega) _
    have g2 : (((w.alloc (.cells #[.pointer (some ⟨d, 0, none⟩)] 22)).alloc (.cells #[.string nm] 9)).alloc (.cells #[.string nm] 9)).cell? ⟨w.heap.size + 1 + 1, 0, none⟩ = some (.string nm) := by simp [go_sem]
    have hsz : (((w.alloc (.cells #[.pointer (some ⟨d, 0, none⟩)] 22)).alloc (.cells #[.string nm] 9)).alloc (.cells #[.string nm] 9)).heap.size = w.heap.size + 3 := by simp
    obtain ⟨W, hW⟩ : ∃ W, W = (((w.alloc (.cells #[.pointer (some ⟨d, 0, none⟩)] 22)).alloc (.cells #[.string nm] 9)).alloc (.cells #[.string nm] 9)) := ⟨_, rfl⟩
    rw [← hW] at hb0 g2 hsz ⊢
    clear hW
    have hba : Below W.heap.size W (W.alloc (.cells #[.slice (some ⟨w.heap.size + 1 + 1, 0, none⟩) 1 1, .bool true, .int .i64 0] 104)) := (Below.refl _ _).alloc (Nat.le_refl _) _
    refine stroke_no d 77 _ _ _ (.pointer none) _ 7 W (fun w1 => Below w.heap.size w w1) rfl rfl rfl rfl ?_
    have hO := (h.below hb0).below hba
    obtain ⟨c0, c1, c2, c3, c4, c5, c6, c7, c8, c9, c10, c11⟩ := hO.disk.cells
    refine (find_exists d (w.heap.size + 1 + 1) Nb nm _ cN 0 1 _ c7 c4 hO.hN ((hba.cell (World.block_lt_of_cell? _ _ g2)).trans g2) hok hsm (by simp [Instr.findNow, Instr.sameNow, beq_self])).mono ?_
    rintro e w1 ⟨rfl, hb⟩
    exact ⟨rfl, (hb0.trans (hba.mono (by omega))).trans (hb.mono (by simp; omega))⟩
  have HC := hid hcall
  clear h hcall
  go_enter Tryz.func20, Tryz.ntmps20
  go_wp2_with (
    go_at_call 76
    refine HC.out.mono ?_
    rintro e w3 ⟨rfl, hx⟩
    have HX := hid hx
    clear hx)
  go_ret
  exact ⟨rfl, HX.out⟩

end
end Go.Proofs.YtlmompdfombgeaaGreat
