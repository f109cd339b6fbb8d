import Derived.Test.YtlmompdfombgeabGreatK03
import Derived.Laws.CopyRow
namespace Go.Proofs.YtlmompdfombgeabGreat
open Go.RowKit

theorem cells5 {w : World} {p : Nat} {a b c d e : Value} {t : TypeId} (h : w.heap[p]? = some (.cells #[a, b, c, d, e] t (0, 0))) : w.cell? ⟨p, 0, none⟩ = some a ∧ w.cell? ⟨p, 1, none⟩ = some b ∧ w.cell? ⟨p, 2, none⟩ = some c ∧ w.cell? ⟨p, 3, none⟩ = some d ∧ w.cell? ⟨p, 4, none⟩ = some e := by
  refine ⟨?_, ?_, ?_, ?_, ?_⟩ <;> (rw [cell_of_row w p _ _ _ _ h]; rfl)

theorem nilAhead124 (sv : Value) (w : World) : (nilAhead 299 116 sv "treadle/disk.do").run Tryz.prog w = .ok (some false) w := by kernel_rfl

theorem method124 (sv : Value) (w : World) : (method 299 116 sv "treadle/disk.do").run Tryz.prog w = .ok (138, sv) w := by kernel_rfl

set_option maxRecDepth 100000 in
set_option maxHeartbeats 1600000 in
theorem pendApp_any (B p : Nat) (sv : Value) (ys : List Int) (w : World) (safe : List Int) (pend : List Value) (data : List Int) (fresh : List Bool) (peak : Int) (vs vp vd vf : Value) (h : FileAt w B p safe pend data fresh peak vs vp vd vf) (hs : Sn w sv ys) (hB : B ≤ w.heap.size)
    (l1 : pend.length ≤ 1000000) (l2 : data.length ≤ 100000000) (l3 : fresh.length ≤ 100000000) (l4 : ys.length ≤ 100000000) (_hp0 : 0 ≤ peak) (_hp1 : peak ≤ 1000000000) (hsb : ∀ k, sv.ownBlock = some k → k ≠ p ∧ vp.ownBlock ≠ some k) :
    Calls Tryz.prog 58 #[.pointer (some ⟨p, 0, none⟩), .iface 116 sv] w fun x w' => x = .returned (.tuple #[]) ∧ ∃ vp' vd' vf', FileAt w' B p safe (pend ++ [.iface 116 sv]) (data ++ ys) (fresh ++ List.replicate ys.length true) (max peak (data ++ ys).length) vs vp' vd' vf' ∧
      (vd'.ownBlock = vd.ownBlock ∨ ∃ k, w.heap.size ≤ k ∧ vd'.ownBlock = some k) ∧ Kept (fun k => k = p ∨ vp.ownBlock = some k ∨ vd.ownBlock = some k ∨ vf.ownBlock = some k) w w' ∧ (vp'.ownBlock = vp.ownBlock ∨ ∃ k, w.heap.size ≤ k ∧ vp'.ownBlock = some k) ∧ (vf'.ownBlock = vf.ownBlock ∨ ∃ k, w.heap.size ≤ k ∧ vf'.ownBlock = some k) := by
  obtain ⟨c0, c1, c2, c3, c4⟩ := cells5 h.blk
  have ff : ∀ o, w.frozen? ⟨p, o, none⟩ = false := fun o => free_of_block h.blk
  obtain ⟨ii, hii, hz0, hz1, hz2⟩ := info_parts Tryz.info134
  have hvp : vp.ownBlock ≠ some p := own_ne_blk h.op h.blk (by decide)
  have hvd : vd.ownBlock ≠ some p := own_ne_blk h.od h.blk (by decide)
  have hvf : vf.ownBlock ≠ some p := own_ne_blk h.of h.blk (by decide)
  have hvs : vs.ownBlock ≠ some p := own_ne_blk h.os h.blk (by decide)
  have hpl := hp_lt h.blk
  have hnw := World.new_ne w ⟨p, 1, none⟩ c1
  have H := hid h
  have HS := hid hs
  obtain ⟨ap, cp, rfl⟩ := own_shape h.op
  obtain ⟨ad, cd, rfl⟩ := own_shape h.od
  obtain ⟨af, cf, rfl⟩ := own_shape h.of
  clear h hs
  go_enter Tryz.func58, Tryz.ntmps58
  go_wp2_with (first
    | (at_builtin; go_loud (
       refine wpList_append_lies _ rfl _ _ 91 rfl B 134 ii _ 1 16 Tryz.underlying91 hii hz0 hz1 hz2 rfl (by omega) _ pend.length pend rfl (H.out.op.alloc _) ⟨w.heap.size, 0, none⟩ 1 1 [.iface 116 sv] rfl rfl (World.news_of_block (cs := #[.iface 116 sv]) (t := 134) (fr := (0, 0)) (heap_alloc_new w _)) (by simp [Value.oneCell']) (by omega) (by unfold maxLen; omega) (by omega) (by simp; omega) (w.heap.size + 1) (by simp) ?_
       intro gg cq w1 hown hgrow hat hgl
       have b1 := (hgrow.cell_far ⟨p, 1, none⟩ (by simp; omega) (Ne.symm hvp)).trans ((World.cell?_alloc_past _ _ _ (by simpa using hpl)).trans c1)
       have f1 := (hgrow.frozen_far ⟨p, 1, none⟩ (by simp; omega) (Ne.symm hvp)).trans ((frozen?_alloc_cells _ _ _ _).trans (ff 1))
       have HG := hid (And.intro hown (And.intro hgrow hat))
       clear hown hgrow hat)))
  have hfile : FileAt (w1.setCell ⟨p, 1, none⟩ (.slice (some ⟨gg, 0, none⟩) (pend.length + 1) cq)) B p safe (pend ++ [.iface 116 sv]) data fresh peak vs (.slice (some ⟨gg, 0, none⟩) (pend.length + 1) cq) (.slice ad data.length cd) (.slice af fresh.length cf) ∧ Sn (w1.setCell ⟨p, 1, none⟩ (.slice (some ⟨gg, 0, none⟩) (pend.length + 1) cq)) sv ys ∧ Kept (fun k => k = p ∨ (Value.slice ap pend.length cp).ownBlock = some k) w (w1.setCell ⟨p, 1, none⟩ (.slice (some ⟨gg, 0, none⟩) (pend.length + 1) cq)) ∧ ((Value.slice (some ⟨gg, 0, none⟩) (pend.length + 1) cq).ownBlock = (Value.slice ap pend.length cp).ownBlock ∨ ∃ k, w.heap.size ≤ k ∧ (Value.slice (some ⟨gg, 0, none⟩) (pend.length + 1) cq).ownBlock = some k) := by
    obtain ⟨hown, hgrow, hat⟩ := HG.out
    have h := H.out
    have g0 := (hgrow.block p (by simp; omega) (Ne.symm hvp)).trans (hp_alloc h.blk _)
    have K0 : Kept (fun k => (Value.slice ap pend.length cp).ownBlock = some k) w w1 := ((Kept.refl _ w).alloc _).grown hgrow (fun k _ e => e)
    have K1 : Kept (fun k => k = p) w1 (w1.setCell ⟨p, 1, none⟩ (.slice (some ⟨gg, 0, none⟩) (pend.length + 1) cq)) := (Kept.refl (fun k => k = p) w1).setCell (p := ⟨p, 1, none⟩) (fun _ => rfl) _
    have hgp : gg ≠ p := by
      intro e
      rcases hat with h | h
      · rw [e] at h; exact hvp h
      · omega
    refine ⟨⟨set_block (i := 1) g0 _, ?_, ?_, ?_, ?_, h.sep⟩, ?_, ?_, ?_⟩
    · exact ownsRow_kept (ownsRow_kept h.os K0 (fun k hk e => own_ne h.os h.op (by decide) k hk e)) K1 (fun k hk e => by subst e; exact hvs hk)
    · have := ownsRow_kept hown K1 (fun k hk e => by simp [Value.ownBlock] at hk; omega)
      simpa using this
    · exact ownsRow_kept (ownsRow_kept h.od K0 (fun k hk e => own_ne h.od h.op (by decide) k hk e)) K1 (fun k hk e => by subst e; exact hvd hk)
    · exact ownsRow_kept (ownsRow_kept h.of K0 (fun k hk e => own_ne h.of h.op (by decide) k hk e)) K1 (fun k hk e => by subst e; exact hvf hk)
    · exact (HS.out.kept K0 (fun k hk e => (hsb k hk).2 e)).kept K1 (fun k hk e => (hsb k hk).1 e)
    · exact (K0.mono (fun i _ e => .inr e)).trans K1 (fun i _ e => .inl e)
    · rcases hat with h | h
      · exact .inl h.symm
      · exact .inr ⟨gg, by omega, rfl⟩
  obtain ⟨W, hW⟩ : ∃ W, W = w1.setCell ⟨p, 1, none⟩ (.slice (some ⟨gg, 0, none⟩) (pend.length + 1) cq) := ⟨_, rfl⟩
  rw [← hW] at hfile ⊢
  obtain ⟨hf1, hs1, hk1, hgv⟩ := hfile
  have HGV := hid hgv
  clear hgv
  obtain ⟨e0, e1, e2, e3, e4⟩ := cells5 hf1.blk
  have gf : ∀ o, W.frozen? ⟨p, o, none⟩ = false := fun o => free_of_block hf1.blk
  have HF1 := hid hf1
  have HS1 := hid hs1
  have HK1 := hid hk1
  have hmf : ∀ (fn : Fn) (first cap : Array Value) (w : World), (Instr.makeFunc fn first cap).run Tryz.prog w = .ok (.func fn first cap) w := fun _ _ _ _ => rfl
  have hna := nilAhead124 sv
  have hmt := method124 sv
  clear hf1 hs1 hk1 hW b1 f1 HG c0 c1 c2 c3 c4 ff hnw
  go_region_with (
    go_at_call 138
    refine (doApp_any B _ _ _ ys data fresh W.drew HS1.out HF1.out.od HF1.out.of (by simpa using Nat.le_trans hB HK1.out.size) (by omega) (by omega) (by omega)).mono ?_
    rintro e w2 ⟨vd', vf', rfl, hd2, hf2, hl1, hl2, hk2⟩
    obtain ⟨ad', cd', rfl⟩ := own_shape hd2
    obtain ⟨af', cf', rfl⟩ := own_shape hf2
    have hblk2 := (show w2.heap[p]? = some (.cells #[vs, .slice (some ⟨gg, 0, none⟩) (pend.length + 1) cq, .slice ad data.length cd, .slice af fresh.length cf, .int .i64 peak] 96 (0, 0)) from hp_kept HF1.out.blk (w' := w2) (S := fun k => (Value.slice ad data.length cd).ownBlock = some k ∨ (Value.slice af fresh.length cf).ownBlock = some k) ⟨hk2.os, hk2.tape, hk2.output, hk2.size, hk2.block⟩ (by rintro (e | e); exact hvd e; exact hvf e))
    obtain ⟨-, -, g2, g3, -⟩ := cells5 hblk2
    have gg2 := (show ∀ o, w2.frozen? ⟨p, o, none⟩ = false from fun o => free_of_block hblk2)
    have HX := hid (And.intro hblk2 (And.intro hd2 (And.intro hf2 (And.intro hl1 (And.intro hl2 hk2)))))
    clear hd2 hf2 hl1 hl2 hk2 hblk2)
  all_goals
    have hfin : FileAt ((w2.setCell ⟨p, 2, none⟩ (.slice ad' (data.length + ys.length) cd')).setCell ⟨p, 3, none⟩ (.slice af' (fresh.length + ys.length) cf')) B p safe (pend ++ [.iface 116 sv]) (data ++ ys) (fresh ++ List.replicate ys.length true) peak vs (.slice (some ⟨gg, 0, none⟩) (pend.length + 1) cq) (.slice ad' (data.length + ys.length) cd') (.slice af' (fresh.length + ys.length) cf') ∧
        Kept (fun k => k = p ∨ (Value.slice ap pend.length cp).ownBlock = some k ∨ (Value.slice ad data.length cd).ownBlock = some k ∨ (Value.slice af fresh.length cf).ownBlock = some k) w ((w2.setCell ⟨p, 2, none⟩ (.slice ad' (data.length + ys.length) cd')).setCell ⟨p, 3, none⟩ (.slice af' (fresh.length + ys.length) cf')) ∧ ((Value.slice ad' (data.length + ys.length) cd').ownBlock = (Value.slice ad data.length cd).ownBlock ∨ ∃ k, w.heap.size ≤ k ∧ (Value.slice ad' (data.length + ys.length) cd').ownBlock = some k) ∧ ((Value.slice af' (fresh.length + ys.length) cf').ownBlock = (Value.slice af fresh.length cf).ownBlock ∨ ∃ k, w.heap.size ≤ k ∧ (Value.slice af' (fresh.length + ys.length) cf').ownBlock = some k) := by
      obtain ⟨hblk2, hd2, hf2, hl1, hl2, hk2⟩ := HX.out
      simp only [List.length_append, List.length_replicate] at hd2 hf2 hl1 hl2
      have h := HF1.out
      have K2 : Kept (fun k => (Value.slice ad data.length cd).ownBlock = some k ∨ (Value.slice af fresh.length cf).ownBlock = some k) W w2 := ⟨hk2.os, hk2.tape, hk2.output, hk2.size, hk2.block⟩
      have K3 : Kept (fun k => k = p) w2 ((w2.setCell ⟨p, 2, none⟩ (.slice ad' (data.length + ys.length) cd')).setCell ⟨p, 3, none⟩ (.slice af' (fresh.length + ys.length) cf')) := ((Kept.refl (fun k => k = p) w2).setCell (p := ⟨p, 2, none⟩) (fun _ => rfl) _).setCell (p := ⟨p, 3, none⟩) (fun _ => rfl) _
      have ed : (Value.slice ad' (data.length + ys.length) cd').ownBlock ≠ some p := own_ne_blk hd2 hblk2 (by decide)
      have ef : (Value.slice af' (fresh.length + ys.length) cf').ownBlock ≠ some p := own_ne_blk hf2 hblk2 (by decide)
      refine ⟨⟨set_block (i := 3) (set_block (i := 2) hblk2 _) _, ?_, ?_, ?_, ?_, ?_⟩, ?_, ?_, ?_⟩
      · refine ownsRow_kept (ownsRow_kept h.os K2 ?_) K3 (fun k hk e => by subst e; exact hvs hk)
        rintro k hk (e | e)
        · exact h.sep k hk e
        · exact own_ne h.os h.of (by decide) k hk e
      · refine ownsRow_kept (ownsRow_kept h.op K2 ?_) K3 (fun k hk e => by subst e; exact own_ne_blk h.op h.blk (by decide) hk)
        rintro k hk (e | e)
        · exact own_ne h.op h.od (by decide) k hk e
        · exact own_ne h.op h.of (by decide) k hk e
      · have := ownsRow_kept hd2 K3 (fun k hk e => by subst e; exact ed hk)
        simpa using this
      · have := ownsRow_kept hf2 K3 (fun k hk e => by subst e; exact ef hk)
        simpa using this
      · intro k hk e
        rcases hl1 with h1 | ⟨j, h1, h2⟩
        · rw [h1] at e; exact h.sep k hk e
        · rw [h2] at e; injection e with e
          have := (h.os.lt k hk).2
          have h3 : W.heap.size ≤ j := h1
          omega
      · refine ((HK1.out.mono (S' := fun k => k = p ∨ (Value.slice ap pend.length cp).ownBlock = some k ∨ (Value.slice ad data.length cd).ownBlock = some k ∨ (Value.slice af fresh.length cf).ownBlock = some k) ?_).trans K2 ?_).trans K3 (fun i _ e => .inl e)
        · rintro i _ (e | e)
          · exact .inl e
          · exact .inr (.inl e)
        · rintro i _ (e | e)
          · exact .inr (.inr (.inl e))
          · exact .inr (.inr (.inr e))
      · rcases hl1 with h1 | ⟨j, h1, h2⟩
        · exact .inl h1
        · have h3 : W.heap.size ≤ j := h1
          exact .inr ⟨j, Nat.le_trans HK1.out.size h3, h2⟩
      · rcases hl2 with h1 | ⟨j, h1, h2⟩
        · exact .inl h1
        · have h3 : W.heap.size ≤ j := h1
          exact .inr ⟨j, Nat.le_trans HK1.out.size h3, h2⟩
    obtain ⟨n1, hn1⟩ : ∃ n1, n1 = data.length + ys.length := ⟨_, rfl⟩
    obtain ⟨n2, hn2⟩ : ∃ n2, n2 = fresh.length + ys.length := ⟨_, rfl⟩
    rw [← hn1, ← hn2] at hfin ⊢
    obtain ⟨W2, hW2⟩ : ∃ W2, W2 = (w2.setCell ⟨p, 2, none⟩ (.slice ad' n1 cd')).setCell ⟨p, 3, none⟩ (.slice af' n2 cf') := ⟨_, rfl⟩
    rw [← hW2] at hfin ⊢
    obtain ⟨hf3, hk3, hl3⟩ := hfin
    obtain ⟨-, -, x2, -, x4⟩ := cells5 hf3.blk
    have xf : ∀ o, W2.frozen? ⟨p, o, none⟩ = false := fun o => free_of_block hf3.blk
    have HF3 := hid hf3
    have HK3 := hid (And.intro hk3 hl3)
    have hn3 : n1 ≤ 200000000 := by omega
    have HN := hid hn1
    clear hn1 hn2 hW2 hf3 hk3 hl3 HX g2 g3 gg2 HF1 HS1 HK1 e0 e1 e2 e3 e4 gf
    go_wp2_with fail
    go_region
    all_goals
      go_end0
      have h := HF3.out
      have hnl : (data ++ ys).length = n1 := by rw [HN.out]; simp
      have K4 : Kept (fun k => k = p) W2 (W2.setCell ⟨p, 4, none⟩ (.int .i64 (max peak n1))).drew := ((Kept.refl (fun k => k = p) W2).setCell (p := ⟨p, 4, none⟩) (fun _ => rfl) _).drew
      refine ⟨rfl, _, _, _, ⟨?_, ownsRow_kept h.os K4 (fun k hk e => by subst e; exact hvs hk), ownsRow_kept h.op K4 (fun k hk e => by subst e; exact own_ne_blk h.op h.blk (by decide) hk), ownsRow_kept h.od K4 (fun k hk e => by subst e; exact own_ne_blk h.od h.blk (by decide) hk), ownsRow_kept h.of K4 (fun k hk e => by subst e; exact own_ne_blk h.of h.blk (by decide) hk), h.sep⟩, HK3.out.2.1, HK3.out.1.trans K4 (fun i _ e => .inl e), HGV.out, HK3.out.2.2⟩
      rw [hnl]
      exact set_block (i := 4) h.blk _

end Go.Proofs.YtlmompdfombgeabGreat

namespace Go.Proofs.YtlmompdfombgeabGreat
open Go.RowKit

theorem Tryz.elem92 : Tryz.prog.underlying 92 = some (.slice (Tryz.prog.elem 92)) := by kernel_rfl
theorem Tryz.elemIs107 : Tryz.prog.elem 92 = 4 := by kernel_rfl
theorem size4 (w : World) : (sizeOf (Tryz.prog.elem 92)).run Tryz.prog w = .ok 1 w := by
  obtain ⟨i0, hi, hz0, hz1, hz2⟩ := info_parts Tryz.info4
  rw [Tryz.elemIs107]
  simp [sizeOf, typeInfo, hi, hz1]

/-- v[:k] of an owned row. -/
theorem own_to {w : World} {B n : Nat} {v : Value} {xs : List Int} (h : w.ownsRow B 5 1 v n (B8 xs)) (k : Nat) (hk : k ≤ n) :
    ∃ rv, (∀ wx : World, (Instr.slice 27 v none (some (.int .i64 k)) none).run Tryz.prog wx = .ok rv wx) ∧ w.ownsRow B 5 1 rv k (B8 (xs.take k)) ∧ rv.ownBlock = v.ownBlock := by
  have hl : xs.length = n := by have := h.1; simp at this; omega
  rcases h.2 with ⟨rfl, h0⟩ | ⟨g, cap, cur, rfl, hb, hg, hc, hm, hs, ht⟩
  · obtain rfl : k = 0 := by omega
    refine ⟨.slice none 0 0, fun wx => ?_, by simpa using owns_nil w B 5 1, rfl⟩
    rw [run_slice_h wx 27 none 0 0 Tryz.elem27 .i64 ((0 : Nat) : Int) (by omega) (by omega), size5]
    rfl
  · refine ⟨.slice (some ⟨g, 0, none⟩) k cap, fun wx => ?_, ⟨by simp [hl]; omega, .inr ⟨g, cap, cur, rfl, hb, hg, by omega, hm, hs, ?_⟩⟩, rfl⟩
    · rw [run_slice_h wx 27 (some ⟨g, 0, none⟩) n cap Tryz.elem27 .i64 k (by omega) (by omega), size5]
      simp [sliced, add_lit]
    · have : (cur.toList.take (n * 1)).take (k * 1) = (B8 xs).take (k * 1) := by rw [ht]
      rw [List.take_take, Nat.min_eq_left (by omega)] at this
      rw [this, ← List.map_take]
      simp

theorem sn_from {w : World} {v : Value} {bs : List Int} (h : Sn w v bs) (lo : Nat) (h1 : lo ≤ bs.length) :
    ∃ rv, (∀ wx : World, (Instr.slice 27 v (some (.int .i64 lo)) none none).run Tryz.prog wx = .ok rv wx) ∧ Sn w rv (bs.drop lo) ∧ (∀ k, rv.ownBlock = some k → v.ownBlock = some k) := by
  obtain ⟨rv, hr, hs, ho⟩ := sl_from h.1 lo h1
  refine ⟨rv, hr, ⟨hs, ?_⟩, ho⟩
  obtain ⟨⟨ao, cap, rfl, hc, hx⟩, hsh⟩ := h
  have e := (hr w).symm.trans (run_slice_l w 27 ao bs.length cap Tryz.elem27 .i64 lo (by omega) (by omega))
  rw [size5] at e
  simp only [Result.andThen] at e
  rcases hsh with hsh | ⟨a, n, c, hsh⟩
  · injection hsh with e1 e2 e3
    have hb : bs = [] := List.eq_nil_of_length_eq_zero e2
    subst hb e1 e3
    obtain rfl : lo = 0 := by simpa using h1
    injection e with e
    left
    rw [e]
    rfl
  · injection hsh with e1 e2 e3
    subst e1
    injection e with e
    right
    rw [e]
    unfold sliced
    split
    · exact ⟨_, _, _, rfl⟩
    · exact ⟨_, _, _, rfl⟩

theorem zero4 (w : World) : (zeroValue 4).run Tryz.prog w = .ok (.bool false) w := by kernel_rfl

theorem zeroCells_bool (n : Nat) : (Builtin.zeroCells (Value.bool false).cells n).toList = List.replicate n (Value.bool false) := by
  apply List.ext_getElem
  · simp [Builtin.zeroCells, Value.cells]
  · intro i h1 h2
    simp [Builtin.zeroCells, Value.cells, Nat.mod_one]

theorem clear_from {B n : Nat} {v : Value} {fs : List Bool} {w : World} (h0 : w.ownsRow B 4 1 v n (BB fs)) (k : Nat) (hk : k ≤ n) :
    ∃ rv, (∀ wx : World, (Instr.slice 92 v (some (.int .i64 k)) none none).run Tryz.prog wx = .ok rv wx) ∧
      (∀ (wx : World) (ty : TypeId), wx.ownsRow B 4 1 v n (BB fs) → ∃ w', (Builtin.clear_ #[92] ty #[rv]).run Tryz.prog wx = .ok (.tuple #[]) w' ∧ w'.ownsRow B 4 1 v n (BB (fs.take k ++ List.replicate (n - k) false)) ∧ wx.grownBy w' v.ownBlock) := by
  have hl : fs.length = n := by have := h0.1; simp at this; omega
  rcases h0.2 with ⟨rfl, hz⟩ | ⟨g, cap, cur, rfl, hb, hg, hc, hm, hs, ht⟩
  · obtain rfl : k = 0 := by omega
    subst hz
    refine ⟨.slice none 0 0, fun wx => ?_, fun wx ty h => ⟨wx, ?_, by simpa using owns_nil wx B 4 1, ⟨rfl, rfl, rfl, Nat.le_refl _, fun _ _ _ => rfl⟩⟩⟩
    · rw [run_slice_l wx 92 none 0 0 Tryz.elem92 .i64 ((0 : Nat) : Int) (by omega) (by omega), size4]
      rfl
    · simp [Builtin.clear_, run_underlying Tryz.underlying92]
  · by_cases hkn : k = n
    · subst hkn
      refine ⟨sliced (some ⟨g, 0, none⟩) k k cap 1, fun wx => ?_, fun wx ty h => ⟨wx, ?_, ?_, ⟨rfl, rfl, rfl, Nat.le_refl _, fun _ _ _ => rfl⟩⟩⟩
      · rw [run_slice_l wx 92 (some ⟨g, 0, none⟩) k cap Tryz.elem92 .i64 k (by omega) (by omega), size4]
        rfl
      · simp only [sliced, Nat.sub_self]
        generalize (if cap = k then some (⟨g, 0, none⟩ : Addr) else (some (⟨g, 0, none⟩ : Addr)).map (·.add (k * 1))) = A
        cases A <;> simp [Builtin.clear_, run_underlying Tryz.underlying92]
      · rw [List.take_of_length_le (by omega), Nat.sub_self]
        simpa using h
    · refine ⟨.slice (some ⟨g, k, none⟩) (n - k) (cap - k), fun wx => ?_, fun wx ty h => ?_⟩
      · rw [run_slice_l wx 92 (some ⟨g, 0, none⟩) n cap Tryz.elem92 .i64 k (by omega) (by omega), size4]
        have : ¬ cap = k := by omega
        simp [sliced, add_lit, this]
      · rcases h.2 with ⟨h1, _⟩ | ⟨g', cap', cur', h1, hb', hg', hc', hm', hs', ht'⟩
        · cases h1
        · injection h1 with e1 e2 e3
          injection e1 with e1
          injection e1 with e1
          subst e1 e3
          have hst := run_storeCells_at (P := Tryz.prog) g k 4 (List.replicate (n - k) (Value.bool false)) 0 cur' wx hg' (by simp; omega) (by intro u hu; rw [List.eq_of_mem_replicate hu]; rfl)
          obtain ⟨Y, hY⟩ : ∃ Y, Y = (cur'.toList.take (k + 0) ++ List.replicate (n - k) (Value.bool false) ++ cur'.toList.drop (k + 0 + (List.replicate (n - k) (Value.bool false)).length)).toArray := ⟨_, rfl⟩
          rw [← hY] at hst
          refine ⟨wx.setRow g Y, ?_, ⟨?_, .inr ⟨g, cap, Y, rfl, hb', setRow_heap wx g cur' _ 4 _ hg', hc', hm', ?_, ?_⟩⟩, ⟨rfl, rfl, rfl, by simp, fun j hj hne => setRow_other _ _ _ _ (fun e => hne (by rw [e]; rfl))⟩⟩
          · have hnz : ¬ n - k = 0 := by omega
            obtain ⟨m, hm2⟩ : ∃ m, n - k = m + 1 := ⟨n - k - 1, by omega⟩
            rw [hm2] at hst ⊢
            simp only [Builtin.clear_, List.getElem?_toArray, List.getElem?_cons_zero, Sem.run_bind, run_underlying Tryz.underlying92, Result.andThen, zero4, zeroCells_bool, hst, Sem.run_pure]
          · simp [hl]; omega
          · rw [hY]; simp; omega
          · rw [hY]
            simp only [List.length_replicate, Nat.add_zero]
            have hc2 : n ≤ cur'.toList.length := by simp; omega
            have e1 : cur'.toList.take k = (BB fs).take k := by
              have : (cur'.toList.take (n * 1)).take k = (BB fs).take k := by rw [ht']
              rwa [List.take_take, Nat.min_eq_left (by omega)] at this
            have e2 : cur'.toList.take k ++ List.replicate (n - k) (Value.bool false) = BB (fs.take k ++ List.replicate (n - k) false) := by
              rw [e1]
              simp [BB, List.map_take]
            rw [e2, List.take_left' (by simp [hl]; omega)]

theorem wpList_clear (w : World) {ops : Array Oper} {rest : List Oper} {o : Oper} {a : Act} {Q : Exit → Act → World → Prop} (hgd : o.guard = none) (x : Operand)
    (ho : o.op = .call { callee := .builtin .clear, args := #[x], argTypes := #[92] }) (rv : Value) (hx : a.eval x = rv) (R : World → Prop) (hr : ∀ ty, ∃ w', (Builtin.clear_ #[92] ty #[rv]).run Tryz.prog w = .ok (.tuple #[]) w' ∧ R w')
    (h : ∀ w', Hid (R w') → wpList Tryz.prog ops Q rest (a.put o.dst (.tuple #[])) w') : wpList Tryz.prog ops Q (o :: rest) a w := by
  refine wpList_plain hgd fun K hK => ?_
  obtain ⟨w', hr, h2⟩ := hr o.type
  unfold Oper.wp execOp
  simp only [ho, resolve, invoke, builtin, Sem.run_bind, Sem.run_pure, Result.andThen_ok, List.map_toArray, List.map_cons, List.map_nil, hx, hr]
  exact hK _ _ (h w' (hid h2))

end Go.Proofs.YtlmompdfombgeabGreat

namespace Go.Proofs.YtlmompdfombgeabGreat
open Go.RowKit Go.MapKept

theorem set_last (w : World) (x : Option Nat) (y : Nat) (z : Array Nat) (u : Nat) (o' : Obj) : (setObj w.heap.size o').run Tryz.prog (w.alloc (.mapIter x y z u)) = .ok () (w.alloc o') := by
  have hp : (w.heap.push (.mapIter x y z u)).setIfInBounds w.heap.size o' = w.heap.push o' := by
    apply Array.toList_inj.1
    simp
  simp only [setObj, Sem.run]
  rw [hp_new]
  show Result.ok () ({ w.alloc (.mapIter x y z u) with heap := (w.heap.push (.mapIter x y z u)).setIfInBounds w.heap.size o' } : World) = _
  rw [hp]
  rfl

theorem next_one (w : World) (ty : TypeId) (m c b : Nat) (key val : Value) (hb : w.heap[m]? = some (.map #[{ key := key, val := val, born := b }] c)) (hbc : b < c) :
    (Instr.next (.pointer (some ⟨w.heap.size, 0, none⟩)) false ty).run Tryz.prog (w.alloc (.mapIter (some m) c #[] c)) = .ok (.tuple #[.bool true, key, val]) (w.alloc (.mapIter (some m) c #[b] c)) := by
  have hb' := hp_alloc hb (.mapIter (some m) c #[] c)
  have h1 : ¬ c ≤ b := by omega
  have hs := fun o' => set_last w (some m) c #[] c o'
  simp only [Instr.next, getObj, Sem.run_bind, Sem.run, hp_new, hb', Result.andThen]
  simp [hbc, h1, choose, Sem.run, Question.forced, hs]

theorem next_over (w : World) (ty : TypeId) (m c b : Nat) (key val : Value) (hb : w.heap[m]? = some (.map #[{ key := key, val := val, born := b }] c)) (hbc : b < c) :
    (Instr.next (.pointer (some ⟨w.heap.size, 0, none⟩)) false ty).run Tryz.prog (w.alloc (.mapIter (some m) c #[b] c)) = .ok (.tuple #[.bool false]) (w.alloc (.mapIter (some m) c #[b] c)) := by
  have hb' := hp_alloc hb (.mapIter (some m) c #[b] c)
  have h1 : ¬ c ≤ b := by omega
  simp only [Instr.next, getObj, Sem.run_bind, Sem.run, hp_new, hb', Result.andThen]
  simp [h1, choose, Sem.run, Question.forced]

theorem next_none (w : World) (ty : TypeId) (m c : Nat) (hb : w.heap[m]? = some (.map #[] c)) :
    (Instr.next (.pointer (some ⟨w.heap.size, 0, none⟩)) false ty).run Tryz.prog (w.alloc (.mapIter (some m) c #[] c)) = .ok (.tuple #[.bool false]) (w.alloc (.mapIter (some m) c #[] c)) := by
  rcases run_next_map (P := Tryz.prog) w ty m c c #[] #[] c hb (by simp) (Nat.le_refl _) with ⟨_, h⟩ | ⟨e, he, _⟩
  · exact h
  · simp [leftOf] at he

theorem entry_one (w : World) (m c b : Nat) (key val : Value) (hb : w.heap[m]? = some (.map #[{ key := key, val := val, born := b }] c)) :
    (Instr.entry (.pointer (some ⟨w.heap.size, 0, none⟩))).run Tryz.prog (w.alloc (.mapIter (some m) c #[b] c)) = .ok (.tuple #[key, val]) (w.alloc (.mapIter (some m) c #[b] c)) := by
  have h := run_entry_map (P := Tryz.prog) w m c #[] #[{ key := key, val := val, born := b }] c { key := key, val := val, born := b } hb (by simp) (by simp)
  simpa using h

set_option maxRecDepth 100000 in
set_option maxHeartbeats 1000000 in
theorem held_one (L c b p : Nat) (key : Value) (peak : Int) (w : World) (hL : w.heap[L]? = some (.map #[{ key := key, val := .pointer (some ⟨p, 0, none⟩), born := b }] c)) (hbc : b < c) (hp : w.cell? ⟨p, 4, none⟩ = some (.int .i64 peak)) (h0 : 0 ≤ peak) (h1 : peak ≤ 1000000000) :
    Calls Tryz.prog 57 #[.map (some L)] w fun x w' => x = .returned (.tuple #[.int .i64 peak, .int .i64 1]) ∧ Below w.heap.size w w' := by
  have hr := run_range_map (P := Tryz.prog) w 82 3 97 L _ c Tryz.underlying82 hL
  have hn1 := fun ty => next_one w ty L c b key _ hL hbc
  have hn2 := fun ty => next_over w ty L c b key _ hL hbc
  have he := entry_one w L c b key _ hL
  have hlen := fun ty => len_map (w := w.alloc (.mapIter (some L) c #[b] c)) Tryz.underlying82 (hp_alloc hL _) ty
  have hpl := World.block_lt_of_cell? _ _ hp
  have hnw := World.new_ne w ⟨p, 4, none⟩ hp
  clear hL
  go_enter Tryz.func57, Tryz.ntmps57
  go_wp2
  refine wp_loop_rounds 2 ?_
  rw [rounds_succ]
  go_wp2
  rw [rounds_succ]
  go_wp2
  go_ret2
  exact ⟨rfl, (Below.refl _ _).alloc (Nat.le_refl _) _⟩

set_option maxRecDepth 100000 in
set_option maxHeartbeats 1000000 in
theorem held_none (L c : Nat) (w : World) (hL : w.heap[L]? = some (.map #[] c)) :
    Calls Tryz.prog 57 #[.map (some L)] w fun x w' => x = .returned (.tuple #[.int .i64 0, .int .i64 0]) ∧ Below w.heap.size w w' := by
  have hr := run_range_map (P := Tryz.prog) w 82 3 97 L _ c Tryz.underlying82 hL
  have hn1 := fun ty => next_none w ty L c hL
  have hlen := fun ty => len_map (w := w.alloc (.mapIter (some L) c #[] c)) Tryz.underlying82 (hp_alloc hL _) ty
  clear hL
  go_enter Tryz.func57, Tryz.ntmps57
  go_wp2
  refine wp_loop_rounds 1 ?_
  rw [rounds_succ]
  go_wp2
  go_ret2
  exact ⟨rfl, (Below.refl _ _).alloc (Nat.le_refl _) _⟩

end Go.Proofs.YtlmompdfombgeabGreat

namespace Go.Proofs.YtlmompdfombgeabGreat
open Go.RowKit Go.MapKept

/-- A map of faults that plans nothing. -/
def NoKinds (w : World) (k : Value) : Prop := k = .map none ∨ ∃ b c, k = .map (some b) ∧ w.heap[b]? = some (.map #[] c)

theorem NoKinds.look {w : World} {k : Value} (h : NoKinds w k) (n : Int) : (Instr.lookup 85 k (.int .i64 n) false).run Tryz.prog w = .ok (.int .i64 0) w := by
  have hz : (zeroValue 3).run Tryz.prog w = .ok (.int .i64 0) w := by kernel_rfl
  rcases h with rfl | ⟨b, c, rfl, hb⟩
  · exact look_nil Tryz.underlying85 Tryz.underlying3 (key_int n) hz false
  · exact look_none Tryz.underlying85 Tryz.underlying3 hb (key_int n) hz rfl false

theorem NoKinds.kept {w w' : World} {k : Value} {S : Nat → Prop} (h : NoKinds w k) (hk : Kept S w w') (hS : ∀ b c, w.heap[b]? = some (.map #[] c) → ¬ S b) : NoKinds w' k := by
  rcases h with rfl | ⟨b, c, rfl, hb⟩
  · exact .inl rfl
  · exact .inr ⟨b, c, rfl, hp_kept hb hk (hS b c hb)⟩

set_option maxRecDepth 100000 in
set_option maxHeartbeats 1000000 in
/-- A stroke, or a reading, that is counted, and no fault. -/
theorem count_any (d o : Nat) (n : Int) (k : Value) (w : World) (cs : Array Value) (t : TypeId) (hd : w.heap[d]? = some (.cells cs t (0, 0))) (c0 : w.cell? ⟨d, o, none⟩ = some (.int .i64 n)) (c1 : w.cell? ⟨d, o + 1, none⟩ = some k) (hn0 : 0 ≤ n) (hn : n ≤ 1000000000) (hk : NoKinds w k) :
    Calls Tryz.prog 63 #[.pointer (some ⟨d, 0, none⟩), .pointer (some ⟨d, o, none⟩)] w fun x w' => ∃ nq, x = .returned (.int .i64 0) ∧ w' = (w.setCell ⟨d, o, none⟩ (.int .i64 (n + 1))).drewN nq := by
  have ff : ∀ i, w.frozen? ⟨d, i, none⟩ = false := fun i => free_of_block hd
  have hk2 : NoKinds (w.setCell ⟨d, o, none⟩ (.int .i64 (n + 1))) k := hk.kept (S := fun k => k = d) ((Kept.refl (fun k => k = d) w).setCell (p := ⟨d, o, none⟩) (fun _ => rfl) _) (fun b c hb e => by subst e; rw [hd] at hb; cases hb)
  have hl : ∀ m, (Instr.lookup 85 k (.int .i64 (n + 1)) false).run Tryz.prog ((w.setCell ⟨d, o, none⟩ (.int .i64 (n + 1))).drewN m) = .ok (.int .i64 0) ((w.setCell ⟨d, o, none⟩ (.int .i64 (n + 1))).drewN m) := fun m => NoKinds.look (w := (w.setCell ⟨d, o, none⟩ (.int .i64 (n + 1))).drewN m) hk2 _
  clear hk hk2 hd
  go_enter Tryz.func63, Tryz.ntmps63
  go_wp2
  go_quiet (fail)
  go_wp2
  go_ret
  exact ⟨nq, rfl, rfl⟩

/-- Is it a name? -/
def nmOK (s : ByteArray) : Bool := decide (1 ≤ s.size) && decide (s.size ≤ 40) && s.data.toList.all (fun c => decide (33 ≤ c.toNat) && decide (c.toNat ≤ 126))

theorem take_snocB (s : ByteArray) (k : Nat) (h : k < s.size) : s.data.toList.take (k + 1) = s.data.toList.take k ++ [s[k]] := by
  rw [List.take_succ_eq_append_getElem (by simpa using h)]; rfl

set_option maxRecDepth 100000 in
set_option maxHeartbeats 1000000 in
theorem isName_any (s : ByteArray) (w : World) (hs : s.size ≤ maxLen) : Calls Tryz.prog 67 #[.string s] w fun x w' => x = .returned (.bool (nmOK s)) ∧ w' = w := by
  unfold maxLen at hs
  obtain ⟨r, hr⟩ : ∃ r, r = nmOK s := ⟨_, rfl⟩
  rw [← hr]
  have HR := hid hr
  clear hr
  by_cases h1 : (s.size : Int) < 1
  · have Hr := hid (show nmOK s = false by have : ¬ 1 ≤ s.size := by omega
                                           simp [nmOK, this])
    go_enter Tryz.func67, Tryz.ntmps67
    go_wp2
    go_ret
    exact ⟨by rw [HR.out, Hr.out]; rfl, rfl⟩
  · by_cases h2 : 40 < (s.size : Int)
    · have Hr := hid (show nmOK s = false by have : ¬ s.size ≤ 40 := by omega
                                             simp [nmOK, this])
      go_enter Tryz.func67, Tryz.ntmps67
      go_wp2
      go_ret
      exact ⟨by rw [HR.out, Hr.out]; rfl, rfl⟩
    · go_enter Tryz.func67, Tryz.ntmps67
      go_wp2
      go_loop [3, 14] (fun _ i => ∃ k : Nat, k ≤ s.size ∧ i = .int .i64 k ∧ Hid ((s.data.toList.take k).all (fun c => decide (33 ≤ c.toNat) && decide (c.toNat ≤ 126)) = true)) (fun _ i => s.size - (intOf i).toNat)
      case atStart => exact ⟨0, Nat.zero_le _, rfl, hid (by simp)⟩
      case round =>
        obtain ⟨k, hk, rfl, hall⟩ := hrel
        by_cases hlt : k < s.size
        · by_cases hgo : 33 ≤ s[k].toNat ∧ s[k].toNat ≤ 126
          · obtain ⟨g1, g2⟩ := hgo
            have HN := hid (show (s.data.toList.take (k + 1)).all (fun c => decide (33 ≤ c.toNat) && decide (c.toNat ≤ 126)) = true by rw [take_snocB s k hlt, List.all_append, hall.out]; simp [g1, g2])
            have j1 : ¬ ((s[k].toNat : Int) < 33) := by omega
            have j2 : ¬ (126 < (s[k].toNat : Int)) := by omega
            go_wp2
            go_round
            case rel => exact ⟨k + 1, by omega, by go_num, HN⟩
            case measure => simp [intOf]; omega
          · have Hr := hid (show nmOK s = false by
              have hm : s[k] ∈ s.data.toList := by
                have : s[k] ∈ s.data.toList.take (k + 1) := by rw [take_snocB s k hlt]; simp
                exact List.mem_of_mem_take this
              have hf : s.data.toList.all (fun c => decide (33 ≤ c.toNat) && decide (c.toNat ≤ 126)) = false := by
                rw [Bool.eq_false_iff]
                intro h
                have := List.all_eq_true.1 h _ hm
                simp at this
                exact hgo this
              simp [nmOK, hf])
            by_cases j1 : (s[k].toNat : Int) < 33
            · go_wp2
              go_ret
              exact ⟨by rw [HR.out, Hr.out]; rfl, rfl⟩
            · have j2 : 126 < (s[k].toNat : Int) := by omega
              go_wp2
              go_ret
              exact ⟨by rw [HR.out, Hr.out]; rfl, rfl⟩
        · have Hr := hid (show nmOK s = true by
            have := hall.out
            rw [List.take_of_length_le (by simp; omega)] at this
            have a1 : 1 ≤ s.size := by omega
            have a2 : s.size ≤ 40 := by omega
            simp only [nmOK, this, a1, a2, decide_true, Bool.and_true])
          go_wp2
          go_ret
          exact ⟨by rw [HR.out, Hr.out]; rfl, rfl⟩

end Go.Proofs.YtlmompdfombgeabGreat

namespace Go.Proofs.YtlmompdfombgeabGreat
open Go.RowKit Go.MapKept

theorem below_drewN {B : Nat} {w w' : World} (h : Below B w w') (n : Nat) : Below B w (w'.drewN n) := ⟨h.os, h.tape, h.output, h.size, h.block⟩

theorem zero3 (w : World) : (zeroValue 3).run Tryz.prog w = .ok (.int .i64 0) w := by kernel_rfl

set_option maxRecDepth 100000 in
set_option maxHeartbeats 1000000 in
theorem find_plain (d : Nat) (w : World) (c7 : w.cell? ⟨d, 7, none⟩ = some (.bool false)) :
    Calls Tryz.prog 61 #[.pointer (some ⟨d, 0, none⟩), .agg #[.slice none 0 0, .bool false, .int .i64 0]] w fun x w' => x = .returned (.tuple #[.pointer none, .int .i64 0]) ∧ Below w.heap.size w w' := by
  have hnw := World.new_ne w ⟨d, 7, none⟩ c7
  have hdl := World.block_lt_of_cell? _ _ c7
  go_enter Tryz.func61, Tryz.ntmps61
  go_wp2
  refine wp_loop_rounds 1 ?_
  rw [rounds_succ]
  go_wp2
  go_ret2
  exact ⟨rfl, (Below.refl _ _).alloc (Nat.le_refl _) _⟩

set_option maxRecDepth 100000 in
set_option maxHeartbeats 1000000 in
theorem find_absent (d g Nb : Nat) (nm : ByteArray) (es : Array MapEntry) (c : Nat) (w : World) (c7 : w.cell? ⟨d, 7, none⟩ = some (.bool false)) (c4 : w.cell? ⟨d, 4, none⟩ = some (.map (some Nb))) (hN : w.heap[Nb]? = some (.map es c)) (hg : w.cell? ⟨g, 0, none⟩ = some (.string nm)) (hok : nmOK nm = true) (hs : nm.size ≤ maxLen)
    (hf : Instr.findNow .string (.string nm) es.toList 0 = some none) :
    Calls Tryz.prog 61 #[.pointer (some ⟨d, 0, none⟩), .agg #[.slice (some ⟨g, 0, none⟩) 1 1, .bool true, .int .i64 0]] w fun x w' => x = .returned (.tuple #[.pointer none, .int .i64 0]) ∧ Below w.heap.size w w' := by
  have hdl := World.block_lt_of_cell? _ _ c7
  have hgl := World.block_lt_of_cell? _ _ hg
  have hl : ∀ m, (Instr.lookup 83 (.map (some Nb)) (.string nm) true).run Tryz.prog ((w.alloc (.cells #[.slice (some ⟨g, 0, none⟩) 1 1, .bool true, .int .i64 0] 109)).drewN m) = .ok (.tuple #[.int .i64 0, .bool false]) ((w.alloc (.cells #[.slice (some ⟨g, 0, none⟩) 1 1, .bool true, .int .i64 0] 109)).drewN m) := fun m =>
    look_none (w := (w.alloc (.cells #[.slice (some ⟨g, 0, none⟩) 1 1, .bool true, .int .i64 0] 109)).drewN m) Tryz.underlying83 Tryz.underlying9 (hp_alloc hN _) (key_str nm) (zero3 _) hf true
  clear hN hf
  go_enter Tryz.func61, Tryz.ntmps61
  go_wp2
  refine wp_loop_rounds 2 ?_
  rw [rounds_succ]
  go_wp2_with (go_at_call 67; refine (isName_any nm _ hs).mono ?_; rw [hok]; rintro e w' ⟨rfl, rfl⟩)
  rw [rounds_succ]
  go_wp2
  go_quiet (fail)
  go_wp2
  go_ret2
  exact ⟨rfl, below_drewN ((Below.refl _ _).alloc (Nat.le_refl _) _) _⟩

set_option maxRecDepth 100000 in
set_option maxHeartbeats 1000000 in
theorem find_exists (d g Nb : Nat) (nm : ByteArray) (es : Array MapEntry) (c i : Nat) (n : Int) (w : World) (c7 : w.cell? ⟨d, 7, none⟩ = some (.bool false)) (c4 : w.cell? ⟨d, 4, none⟩ = some (.map (some Nb))) (hN : w.heap[Nb]? = some (.map es c)) (hg : w.cell? ⟨g, 0, none⟩ = some (.string nm)) (hok : nmOK nm = true) (hs : nm.size ≤ maxLen)
    (hf : Instr.findNow .string (.string nm) es.toList 0 = some (some (i, .int .i64 n))) :
    Calls Tryz.prog 61 #[.pointer (some ⟨d, 0, none⟩), .agg #[.slice (some ⟨g, 0, none⟩) 1 1, .bool true, .int .i64 0]] w fun x w' => x = .returned (.tuple #[.pointer none, .int .i64 7]) ∧ Below w.heap.size w w' := by
  have hdl := World.block_lt_of_cell? _ _ c7
  have hgl := World.block_lt_of_cell? _ _ hg
  have hl : ∀ m, (Instr.lookup 83 (.map (some Nb)) (.string nm) true).run Tryz.prog ((w.alloc (.cells #[.slice (some ⟨g, 0, none⟩) 1 1, .bool true, .int .i64 0] 109)).drewN m) = .ok (.tuple #[.int .i64 n, .bool true]) ((w.alloc (.cells #[.slice (some ⟨g, 0, none⟩) 1 1, .bool true, .int .i64 0] 109)).drewN m) := fun m =>
    look_found (w := (w.alloc (.cells #[.slice (some ⟨g, 0, none⟩) 1 1, .bool true, .int .i64 0] 109)).drewN m) Tryz.underlying83 Tryz.underlying9 (hp_alloc hN _) (key_str nm) hf true
  clear hN hf
  go_enter Tryz.func61, Tryz.ntmps61
  go_wp2
  refine wp_loop_rounds 2 ?_
  rw [rounds_succ]
  go_wp2_with (go_at_call 67; refine (isName_any nm _ hs).mono ?_; rw [hok]; rintro e w' ⟨rfl, rfl⟩)
  rw [rounds_succ]
  go_wp2
  go_quiet (fail)
  go_wp2
  go_ret2
  exact ⟨rfl, below_drewN ((Below.refl _ _).alloc (Nat.le_refl _) _) _⟩

set_option maxRecDepth 100000 in
set_option maxHeartbeats 1000000 in
theorem find_there (d g Nb L p : Nat) (nm : ByteArray) (es fs : Array MapEntry) (c c' i i' : Nat) (n sz : Int) (ao : Option Addr) (len cap : Nat) (w : World) (c7 : w.cell? ⟨d, 7, none⟩ = some (.bool false)) (c4 : w.cell? ⟨d, 4, none⟩ = some (.map (some Nb))) (c2 : w.cell? ⟨d, 2, none⟩ = some (.map (some L))) (hN : w.heap[Nb]? = some (.map es c)) (hL : w.heap[L]? = some (.map fs c')) (hg : w.cell? ⟨g, 0, none⟩ = some (.string nm)) (hok : nmOK nm = true) (hs : nm.size ≤ maxLen)
    (hf : Instr.findNow .string (.string nm) es.toList 0 = some (some (i, .int .i64 n))) (hf2 : Instr.findNow (.int .i64) (.int .i64 n) fs.toList 0 = some (some (i', .pointer (some ⟨p, 0, none⟩)))) (hp : w.cell? ⟨p, 2, none⟩ = some (.slice ao len cap)) (h0 : 0 ≤ sz) (h1 : sz ≤ len) :
    Calls Tryz.prog 61 #[.pointer (some ⟨d, 0, none⟩), .agg #[.slice (some ⟨g, 0, none⟩) 1 1, .bool false, .int .i64 sz]] w fun x w' => x = .returned (.tuple #[.pointer (some ⟨p, 0, none⟩), .int .i64 0]) ∧ Below w.heap.size w w' := by
  have hdl := World.block_lt_of_cell? _ _ c7
  have hgl := World.block_lt_of_cell? _ _ hg
  have hpl := World.block_lt_of_cell? _ _ hp
  have hl : ∀ m, (Instr.lookup 83 (.map (some Nb)) (.string nm) true).run Tryz.prog ((w.alloc (.cells #[.slice (some ⟨g, 0, none⟩) 1 1, .bool false, .int .i64 sz] 109)).drewN m) = .ok (.tuple #[.int .i64 n, .bool true]) ((w.alloc (.cells #[.slice (some ⟨g, 0, none⟩) 1 1, .bool false, .int .i64 sz] 109)).drewN m) := fun m =>
    look_found (w := (w.alloc (.cells #[.slice (some ⟨g, 0, none⟩) 1 1, .bool false, .int .i64 sz] 109)).drewN m) Tryz.underlying83 Tryz.underlying9 (hp_alloc hN _) (key_str nm) hf true
  have hl2 : ∀ m, (Instr.lookup 82 (.map (some L)) (.int .i64 n) false).run Tryz.prog ((w.alloc (.cells #[.slice (some ⟨g, 0, none⟩) 1 1, .bool false, .int .i64 sz] 109)).drewN m) = .ok (.pointer (some ⟨p, 0, none⟩)) ((w.alloc (.cells #[.slice (some ⟨g, 0, none⟩) 1 1, .bool false, .int .i64 sz] 109)).drewN m) := fun m =>
    look_found (w := (w.alloc (.cells #[.slice (some ⟨g, 0, none⟩) 1 1, .bool false, .int .i64 sz] 109)).drewN m) Tryz.underlying82 Tryz.underlying3 (hp_alloc hL _) (key_int n) hf2 false
  have j1 : decide (sz < 0) = false := by simp; omega
  have j2 : decide ((len : Int) < sz) = false := by simp; omega
  clear hN hf hL hf2
  go_enter Tryz.func61, Tryz.ntmps61
  go_wp2
  refine wp_loop_rounds 2 ?_
  rw [rounds_succ]
  go_wp2_with (go_at_call 67; refine (isName_any nm _ hs).mono ?_; rw [hok]; rintro e w' ⟨rfl, rfl⟩)
  rw [rounds_succ]
  go_wp2
  go_quiet (fail)
  go_wp2
  go_quiet (fail)
  go_wp2
  go_ret2
  exact ⟨rfl, below_drewN ((Below.refl _ _).alloc (Nat.le_refl _) _) _⟩

end Go.Proofs.YtlmompdfombgeabGreat
