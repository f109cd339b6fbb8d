import Derived.Test.YtlmompdfombgeaaGreatG2
namespace Go.Proofs.YtlmompdfombgeaaGreat
open Go.RowKit

theorem cells5 {w : World} {p : Nat} {a b c d e : Value} {t : TypeId} (h : w.heap[p]? = some (.cells #[a, b, c, d, e] t (0, 0))) : w.cell? ⟨p, 0, none⟩ = some a ∧ w.cell? ⟨p, 1, none⟩ = some b ∧ w.cell? ⟨p, 2, none⟩ = some c ∧ w.cell? ⟨p, 3, none⟩ = some d ∧ w.cell? ⟨p, 4, none⟩ = some e := by
  refine ⟨?_, ?_, ?_, ?_, ?_⟩ <;> (rw [cell_of_row w p _ _ _ _ h]; rfl)

theorem nilAhead124 (sv : Value) (w : World) : (nilAhead 331 124 sv "treadle/disk.do").run Tryz.prog w = .ok (some false) w := by kernel_rfl

theorem method124 (sv : Value) (w : World) : (method 331 124 sv "treadle/disk.do").run Tryz.prog w = .ok (189, sv) w := by kernel_rfl

set_option maxRecDepth 100000 in
set_option maxHeartbeats 1600000 in
theorem pendApp_any (B p : Nat) (sv : Value) (ys : List Int) (w : World) (safe : List Int) (pend : List Value) (data : List Int) (fresh : List Bool) (peak : Int) (vs vp vd vf : Value) (h : FileAt w B p safe pend data fresh peak vs vp vd vf) (hs : Sn w sv ys) (hB : B ≤ w.heap.size)
    (l1 : pend.length ≤ 1000000) (l2 : data.length ≤ 100000000) (l3 : fresh.length ≤ 100000000) (l4 : ys.length ≤ 100000000) (_hp0 : 0 ≤ peak) (_hp1 : peak ≤ 1000000000) (hsb : ∀ k, sv.ownBlock = some k → k ≠ p ∧ vp.ownBlock ≠ some k) :
    Calls Tryz.prog 81 #[.pointer (some ⟨p, 0, none⟩), .iface 124 sv] w fun x w' => x = .returned (.tuple #[]) ∧ ∃ vp' vd' vf', FileAt w' B p safe (pend ++ [.iface 124 sv]) (data ++ ys) (fresh ++ List.replicate ys.length true) (max peak (data ++ ys).length) vs vp' vd' vf' ∧
      (vd'.ownBlock = vd.ownBlock ∨ ∃ k, w.heap.size ≤ k ∧ vd'.ownBlock = some k) ∧ Kept (fun k => k = p ∨ vp.ownBlock = some k ∨ vd.ownBlock = some k ∨ vf.ownBlock = some k) w w' := by
  obtain ⟨c0, c1, c2, c3, c4⟩ := cells5 h.blk
  have ff : ∀ o, w.frozen? ⟨p, o, none⟩ = false := fun o => free_of_block h.blk
  obtain ⟨ii, hii, hz0, hz1, hz2⟩ := info_parts Tryz.info171
  have hvp : vp.ownBlock ≠ some p := own_ne_blk h.op h.blk (by decide)
  have hvd : vd.ownBlock ≠ some p := own_ne_blk h.od h.blk (by decide)
  have hvf : vf.ownBlock ≠ some p := own_ne_blk h.of h.blk (by decide)
  have hvs : vs.ownBlock ≠ some p := own_ne_blk h.os h.blk (by decide)
  have hpl := hp_lt h.blk
  have hnw := World.new_ne w ⟨p, 1, none⟩ c1
  have H := hid h
  have HS := hid hs
  obtain ⟨ap, cp, rfl⟩ := own_shape h.op
  obtain ⟨ad, cd, rfl⟩ := own_shape h.od
  obtain ⟨af, cf, rfl⟩ := own_shape h.of
  clear h hs
  go_enter Tryz.func81, Tryz.ntmps81
  go_wp2_with (first
    | (at_builtin; go_loud (
       refine wpList_append_lies _ rfl _ _ 110 rfl B 171 ii _ 1 16 Tryz.underlying110 hii hz0 hz1 hz2 rfl (by omega) _ pend.length pend rfl (H.out.op.alloc _) ⟨w.heap.size, 0, none⟩ 1 1 [.iface 124 sv] rfl rfl (World.news_of_block (cs := #[.iface 124 sv]) (t := 171) (fr := (0, 0)) (heap_alloc_new w _)) (by simp [Value.oneCell']) (by omega) (by unfold maxLen; omega) (by omega) (by simp; omega) (w.heap.size + 1) (by simp) ?_
       intro gg cq w1 hown hgrow hat hgl
       have b1 := (hgrow.cell_far ⟨p, 1, none⟩ (by simp; omega) (Ne.symm hvp)).trans ((World.cell?_alloc_past _ _ _ (by simpa using hpl)).trans c1)
       have f1 := (hgrow.frozen_far ⟨p, 1, none⟩ (by simp; omega) (Ne.symm hvp)).trans ((frozen?_alloc_cells _ _ _ _).trans (ff 1))
       have HG := hid (And.intro hown (And.intro hgrow hat))
       clear hown hgrow hat)))
  have hfile : FileAt (w1.setCell ⟨p, 1, none⟩ (.slice (some ⟨gg, 0, none⟩) (pend.length + 1) cq)) B p safe (pend ++ [.iface 124 sv]) data fresh peak vs (.slice (some ⟨gg, 0, none⟩) (pend.length + 1) cq) (.slice ad data.length cd) (.slice af fresh.length cf) ∧ Sn (w1.setCell ⟨p, 1, none⟩ (.slice (some ⟨gg, 0, none⟩) (pend.length + 1) cq)) sv ys ∧ Kept (fun k => k = p ∨ (Value.slice ap pend.length cp).ownBlock = some k) w (w1.setCell ⟨p, 1, none⟩ (.slice (some ⟨gg, 0, none⟩) (pend.length + 1) cq)) := by
    obtain ⟨hown, hgrow, hat⟩ := HG.out
    have h := H.out
    have g0 := (hgrow.block p (by simp; omega) (Ne.symm hvp)).trans (hp_alloc h.blk _)
    have K0 : Kept (fun k => (Value.slice ap pend.length cp).ownBlock = some k) w w1 := ((Kept.refl _ w).alloc _).grown hgrow (fun k _ e => e)
    have K1 : Kept (fun k => k = p) w1 (w1.setCell ⟨p, 1, none⟩ (.slice (some ⟨gg, 0, none⟩) (pend.length + 1) cq)) := (Kept.refl (fun k => k = p) w1).setCell (p := ⟨p, 1, none⟩) (fun _ => rfl) _
    have hgp : gg ≠ p := by
      intro e
      rcases hat with h | h
      · rw [e] at h; exact hvp h
      · omega
    refine ⟨⟨set_block (i := 1) g0 _, ?_, ?_, ?_, ?_, h.sep⟩, ?_, ?_⟩
    · exact ownsRow_kept (ownsRow_kept h.os K0 (fun k hk e => own_ne h.os h.op (by decide) k hk e)) K1 (fun k hk e => by subst e; exact hvs hk)
    · have := ownsRow_kept hown K1 (fun k hk e => by simp [Value.ownBlock] at hk; omega)
      simpa using this
    · exact ownsRow_kept (ownsRow_kept h.od K0 (fun k hk e => own_ne h.od h.op (by decide) k hk e)) K1 (fun k hk e => by subst e; exact hvd hk)
    · exact ownsRow_kept (ownsRow_kept h.of K0 (fun k hk e => own_ne h.of h.op (by decide) k hk e)) K1 (fun k hk e => by subst e; exact hvf hk)
    · exact (HS.out.kept K0 (fun k hk e => (hsb k hk).2 e)).kept K1 (fun k hk e => (hsb k hk).1 e)
    · exact (K0.mono (fun i _ e => .inr e)).trans K1 (fun i _ e => .inl e)
  obtain ⟨W, hW⟩ : ∃ W, W = w1.setCell ⟨p, 1, none⟩ (.slice (some ⟨gg, 0, none⟩) (pend.length + 1) cq) := ⟨_, rfl⟩
  rw [← hW] at hfile ⊢
  obtain ⟨hf1, hs1, hk1⟩ := hfile
  obtain ⟨e0, e1, e2, e3, e4⟩ := cells5 hf1.blk
  have gf : ∀ o, W.frozen? ⟨p, o, none⟩ = false := fun o => free_of_block hf1.blk
  have HF1 := hid hf1
  have HS1 := hid hs1
  have HK1 := hid hk1
  have hmf : ∀ (fn : Fn) (first cap : Array Value) (w : World), (Instr.makeFunc fn first cap).run Tryz.prog w = .ok (.func fn first cap) w := fun _ _ _ _ => rfl
  have hna := nilAhead124 sv
  have hmt := method124 sv
  clear hf1 hs1 hk1 hW b1 f1 HG c0 c1 c2 c3 c4 ff hnw
  go_region_with (
    go_at_call 189
    refine (doApp_any B _ _ _ ys data fresh W.drew HS1.out HF1.out.od HF1.out.of (by simpa using Nat.le_trans hB HK1.out.size) (by omega) (by omega) (by omega)).mono ?_
    rintro e w2 ⟨vd', vf', rfl, hd2, hf2, hl1, hl2, hk2⟩
    obtain ⟨ad', cd', rfl⟩ := own_shape hd2
    obtain ⟨af', cf', rfl⟩ := own_shape hf2
    have hblk2 := (show w2.heap[p]? = some (.cells #[vs, .slice (some ⟨gg, 0, none⟩) (pend.length + 1) cq, .slice ad data.length cd, .slice af fresh.length cf, .int .i64 peak] 112 (0, 0)) from hp_kept HF1.out.blk (w' := w2) (S := fun k => (Value.slice ad data.length cd).ownBlock = some k ∨ (Value.slice af fresh.length cf).ownBlock = some k) ⟨hk2.os, hk2.tape, hk2.output, hk2.size, hk2.block⟩ (by rintro (e | e); exact hvd e; exact hvf e))
    obtain ⟨-, -, g2, g3, -⟩ := cells5 hblk2
    have gg2 := (show ∀ o, w2.frozen? ⟨p, o, none⟩ = false from fun o => free_of_block hblk2)
    have HX := hid (And.intro hblk2 (And.intro hd2 (And.intro hf2 (And.intro hl1 (And.intro hl2 hk2)))))
    clear hd2 hf2 hl1 hl2 hk2 hblk2)
  all_goals
    have hfin : FileAt ((w2.setCell ⟨p, 2, none⟩ (.slice ad' (data.length + ys.length) cd')).setCell ⟨p, 3, none⟩ (.slice af' (fresh.length + ys.length) cf')) B p safe (pend ++ [.iface 124 sv]) (data ++ ys) (fresh ++ List.replicate ys.length true) peak vs (.slice (some ⟨gg, 0, none⟩) (pend.length + 1) cq) (.slice ad' (data.length + ys.length) cd') (.slice af' (fresh.length + ys.length) cf') ∧
        Kept (fun k => k = p ∨ (Value.slice ap pend.length cp).ownBlock = some k ∨ (Value.slice ad data.length cd).ownBlock = some k ∨ (Value.slice af fresh.length cf).ownBlock = some k) w ((w2.setCell ⟨p, 2, none⟩ (.slice ad' (data.length + ys.length) cd')).setCell ⟨p, 3, none⟩ (.slice af' (fresh.length + ys.length) cf')) ∧ ((Value.slice ad' (data.length + ys.length) cd').ownBlock = (Value.slice ad data.length cd).ownBlock ∨ ∃ k, w.heap.size ≤ k ∧ (Value.slice ad' (data.length + ys.length) cd').ownBlock = some k) := by
      obtain ⟨hblk2, hd2, hf2, hl1, hl2, hk2⟩ := HX.out
      simp only [List.length_append, List.length_replicate] at hd2 hf2 hl1 hl2
      have h := HF1.out
      have K2 : Kept (fun k => (Value.slice ad data.length cd).ownBlock = some k ∨ (Value.slice af fresh.length cf).ownBlock = some k) W w2 := ⟨hk2.os, hk2.tape, hk2.output, hk2.size, hk2.block⟩
      have K3 : Kept (fun k => k = p) w2 ((w2.setCell ⟨p, 2, none⟩ (.slice ad' (data.length + ys.length) cd')).setCell ⟨p, 3, none⟩ (.slice af' (fresh.length + ys.length) cf')) := ((Kept.refl (fun k => k = p) w2).setCell (p := ⟨p, 2, none⟩) (fun _ => rfl) _).setCell (p := ⟨p, 3, none⟩) (fun _ => rfl) _
      have ed : (Value.slice ad' (data.length + ys.length) cd').ownBlock ≠ some p := own_ne_blk hd2 hblk2 (by decide)
      have ef : (Value.slice af' (fresh.length + ys.length) cf').ownBlock ≠ some p := own_ne_blk hf2 hblk2 (by decide)
      refine ⟨⟨set_block (i := 3) (set_block (i := 2) hblk2 _) _, ?_, ?_, ?_, ?_, ?_⟩, ?_, ?_⟩
      · refine ownsRow_kept (ownsRow_kept h.os K2 ?_) K3 (fun k hk e => by subst e; exact hvs hk)
        rintro k hk (e | e)
        · exact h.sep k hk e
        · exact own_ne h.os h.of (by decide) k hk e
      · refine ownsRow_kept (ownsRow_kept h.op K2 ?_) K3 (fun k hk e => by subst e; exact own_ne_blk h.op h.blk (by decide) hk)
        rintro k hk (e | e)
        · exact own_ne h.op h.od (by decide) k hk e
        · exact own_ne h.op h.of (by decide) k hk e
      · have := ownsRow_kept hd2 K3 (fun k hk e => by subst e; exact ed hk)
        simpa using this
      · have := ownsRow_kept hf2 K3 (fun k hk e => by subst e; exact ef hk)
        simpa using this
      · intro k hk e
        rcases hl1 with h1 | ⟨j, h1, h2⟩
        · rw [h1] at e; exact h.sep k hk e
        · rw [h2] at e; injection e with e
          have := (h.os.lt k hk).2
          have h3 : W.heap.size ≤ j := h1
          omega
      · refine ((HK1.out.mono (S' := fun k => k = p ∨ (Value.slice ap pend.length cp).ownBlock = some k ∨ (Value.slice ad data.length cd).ownBlock = some k ∨ (Value.slice af fresh.length cf).ownBlock = some k) ?_).trans K2 ?_).trans K3 (fun i _ e => .inl e)
        · rintro i _ (e | e)
          · exact .inl e
          · exact .inr (.inl e)
        · rintro i _ (e | e)
          · exact .inr (.inr (.inl e))
          · exact .inr (.inr (.inr e))
      · rcases hl1 with h1 | ⟨j, h1, h2⟩
        · exact .inl h1
        · have h3 : W.heap.size ≤ j := h1
          exact .inr ⟨j, Nat.le_trans HK1.out.size h3, h2⟩
    obtain ⟨n1, hn1⟩ : ∃ n1, n1 = data.length + ys.length := ⟨_, rfl⟩
    obtain ⟨n2, hn2⟩ : ∃ n2, n2 = fresh.length + ys.length := ⟨_, rfl⟩
    rw [← hn1, ← hn2] at hfin ⊢
    obtain ⟨W2, hW2⟩ : ∃ W2, W2 = (w2.setCell ⟨p, 2, none⟩ (.slice ad' n1 cd')).setCell ⟨p, 3, none⟩ (.slice af' n2 cf') := ⟨_, rfl⟩
    rw [← hW2] at hfin ⊢
    obtain ⟨hf3, hk3, hl3⟩ := hfin
    obtain ⟨-, -, x2, -, x4⟩ := cells5 hf3.blk
    have xf : ∀ o, W2.frozen? ⟨p, o, none⟩ = false := fun o => free_of_block hf3.blk
    have HF3 := hid hf3
    have HK3 := hid (And.intro hk3 hl3)
    have hn3 : n1 ≤ 200000000 := by omega
    have HN := hid hn1
    clear hn1 hn2 hW2 hf3 hk3 hl3 HX g2 g3 gg2 HF1 HS1 HK1 e0 e1 e2 e3 e4 gf
    go_wp2_with fail
    go_region
    all_goals
      go_end0
      have h := HF3.out
      have hnl : (data ++ ys).length = n1 := by rw [HN.out]; simp
      have K4 : Kept (fun k => k = p) W2 (W2.setCell ⟨p, 4, none⟩ (.int .i64 (max peak n1))).drew := ((Kept.refl (fun k => k = p) W2).setCell (p := ⟨p, 4, none⟩) (fun _ => rfl) _).drew
      refine ⟨rfl, _, _, _, ⟨?_, ownsRow_kept h.os K4 (fun k hk e => by subst e; exact hvs hk), ownsRow_kept h.op K4 (fun k hk e => by subst e; exact own_ne_blk h.op h.blk (by decide) hk), ownsRow_kept h.od K4 (fun k hk e => by subst e; exact own_ne_blk h.od h.blk (by decide) hk), ownsRow_kept h.of K4 (fun k hk e => by subst e; exact own_ne_blk h.of h.blk (by decide) hk), h.sep⟩, HK3.out.2, HK3.out.1.trans K4 (fun i _ e => .inl e)⟩
      rw [hnl]
      exact set_block (i := 4) h.blk _

end Go.Proofs.YtlmompdfombgeaaGreat
