import Derived.Test.YtlmompdfombgeabGreatK04
import Derived.Test.YtlmompdfombgeabGreatK05
namespace Go.Proofs.YtlmompdfombgeabGreat
open Go.RowKit

/-- Which bytes a change brought: the last t of them. -/
def frs (m t : Nat) : List Bool := List.replicate m false ++ List.replicate t true

theorem frs_len (m t : Nat) : (frs m t).length = m + t := by simp [frs]
theorem frs_get (m t k : Nat) (h : k < m + t) : (frs m t)[k]? = some (decide (m ≤ k)) := by
  unfold frs
  rw [List.getElem?_append]
  split
  · rename_i h1
    simp at h1
    have : ¬ m ≤ k := by omega
    simp [h1, this]
  · rename_i h1
    simp at h1
    rw [List.getElem?_replicate, if_pos (by simp; omega)]
    simp [h1]
theorem frs_app (m t n : Nat) : frs m t ++ List.replicate n true = frs m (t + n) := by
  simp [frs, List.append_assoc]
theorem frs_zero (m : Nat) : frs m 0 = List.replicate m false := by simp [frs]

set_option maxRecDepth 100000 in
set_option maxHeartbeats 1600000 in
theorem sync_any (B p : Nat) (w : World) (safe : List Int) (pend : List Value) (data : List Int) (m t : Nat) (peak : Int) (vs vp vd vf : Value) (h : FileAt w B p safe pend data (frs m t) peak vs vp vd vf) (hB : B ≤ w.heap.size) (hl : data.length = m + t) (hm : m ≤ safe.length) (hpre : data.take m = safe.take m) (l2 : data.length ≤ 100000000) (l3 : safe.length ≤ 100000000) :
    Calls Tryz.prog 51 #[.pointer (some ⟨p, 0, none⟩)] w fun x w' => x = .returned (.tuple #[]) ∧ ∃ vs', FileAt w' B p data [] data (frs (m + t) 0) data.length vs' (.slice none 0 0) vd vf ∧ Kept (fun k => k = p ∨ vs.ownBlock = some k ∨ vf.ownBlock = some k) w w' ∧ (vs'.ownBlock = vs.ownBlock ∨ ∃ k, w.heap.size ≤ k ∧ vs'.ownBlock = some k) := by
  obtain ⟨c0, c1, c2, c3, c4⟩ := cells5 h.blk
  have ff : ∀ o, w.frozen? ⟨p, o, none⟩ = false := fun o => free_of_block h.blk
  have hpl := hp_lt h.blk
  have hvd : vd.ownBlock ≠ some p := own_ne_blk h.od h.blk (by decide)
  have hvf : vf.ownBlock ≠ some p := own_ne_blk h.of h.blk (by decide)
  have hvs : vs.ownBlock ≠ some p := own_ne_blk h.os h.blk (by decide)
  obtain ⟨sv, hsv1, hsv2, hsv3⟩ := own_to h.os m hm
  obtain ⟨dv, hdv1, hdv2, hdv3⟩ := sn_from (sn_of_owns h.od) m (by omega)
  have hfo := h.of
  rw [frs_len] at hfo
  obtain ⟨fv, hfv1, hfv2⟩ := clear_from hfo m (by omega)
  have hcell : ∀ k, k < m + t → ∀ g cap, vf = .slice (some ⟨g, 0, none⟩) (m + t) cap → w.cell? ⟨g, k, none⟩ = some (.bool (decide (m ≤ k))) := by
    intro k hk g cap hg
    have := hfo.cells (g := g) (by rw [hg]; rfl) k (.bool (decide (m ≤ k))) (by simp [BB, frs_get m t k hk])
    rwa [add_lit, Nat.zero_add] at this
  have hvfs : m + t = 0 ∨ ∃ g cap, vf = .slice (some ⟨g, 0, none⟩) (m + t) cap := by
    rcases hfo.2 with ⟨_, h2⟩ | ⟨g, cap, cur, h2, _⟩
    · exact .inl h2
    · exact .inr ⟨g, cap, h2⟩
  obtain ⟨ad, cd, hvd2⟩ := own_shape h.od
  rw [hvd2] at c2
  have H := hid h
  have HC := hid hcell
  have HV := hid hvfs
  have HSV := hid (And.intro hsv2 hsv3)
  have HDV := hid (And.intro hdv2 hdv3)
  have HFV := hid hfv2
  have HP := hid hpre
  have hvfo := own_shape hfo
  obtain ⟨af, cf, hvf2⟩ := hvfo
  rw [hvf2] at c3 hfv1
  rw [hvd2] at hdv1
  have HL := hid hl
  clear h hcell hvfs hsv2 hsv3 hdv2 hdv3 hfv2 hpre hfo
  rw [show (data.length : Nat) = m + t from hl] at c2 hdv1 l2
  clear hl
  go_enter Tryz.func51, Tryz.ntmps51
  go_wp2
  go_loop [2] (fun i => ∃ k : Nat, m ≤ k ∧ k ≤ m + t ∧ i = .int .i64 k) (fun i => (intOf i).toNat)
  case atStart => exact ⟨m + t, by omega, by omega, by go_num⟩
  case round =>
    obtain ⟨k, hk1, hk2, rfl⟩ := hrel
    by_cases hgt : m < k
    · obtain ⟨g, cap, hg⟩ := HV.out.resolve_left (by omega)
      have hx := HC.out (k - 1) (by omega) g cap hg
      have hd1 : decide (m ≤ k - 1) = true := by simp; omega
      rw [hd1] at hx
      rw [hvf2] at hg
      injection hg with g1 g2 g3
      subst g1
      have i1 : (0 : Int) < (k : Int) := by omega
      have i2 : (0 : Int) ≤ (k : Int) - 1 := by omega
      have i3 : (k : Int) - 1 < ((m + t : Nat) : Int) := by omega
      have hx2 : w.cell? ⟨g, ((k : Int) - 1).toNat, none⟩ = some (.bool true) := by rw [show ((k : Int) - 1).toNat = k - 1 by omega]; exact hx
      go_wp2
      go_round
      case rel => exact ⟨k - 1, by omega, by omega, by rw [show ((k - 1 : Nat) : Int) = (k : Int) - 1 by omega]⟩
      case measure => simp [intOf]; omega
    · obtain rfl : k = m := by omega
      have hgo : (k = 0) ∨ (∃ g cap, vf = .slice (some ⟨g, 0, none⟩) (k + t) cap ∧ 0 < k ∧ w.cell? ⟨g, k - 1, none⟩ = some (.bool false)) := by
        rcases Nat.eq_zero_or_pos k with h0 | h0
        · exact .inl h0
        · obtain ⟨g, cap, hg⟩ := HV.out.resolve_left (by omega)
          have hx := HC.out (k - 1) (by omega) g cap hg
          have hd1 : decide (k ≤ k - 1) = false := by simp; omega
          rw [hd1] at hx
          exact .inr ⟨g, cap, hg, h0, hx⟩
      have hds : (data.drop k).length = t := by have := HL.out; simp; omega
      have hve : sv.ownBlock = vs.ownBlock := HSV.out.2
      have hvs' : sv.ownBlock ≠ some p := by rw [hve]; exact hvs
      have hpw := World.new_ne w ⟨p, 0, none⟩ c0
      rcases hgo with h0 | ⟨g, cap, hg, h0, hx⟩
      case' inr =>
        rw [hvf2] at hg
        injection hg with g1 g2 g3
        have i1 : (0 : Int) < (k : Int) := by omega
        have i2 : (0 : Int) ≤ (k : Int) - 1 := by omega
        have i3 : (k : Int) - 1 < ((k + t : Nat) : Int) := by omega
        have hx2 : w.cell? ⟨g, k - 1, none⟩ = some (.bool false) := hx
        have hix : ∀ wx : World, (Instr.indexAt 92 (.slice af (k + t) cf) (.int .i64 ((k : Int) - 1))).run Tryz.prog wx = .ok (.pointer (some ⟨g, k - 1, none⟩)) wx := by
          intro wx
          rw [g1]
          have e1 : ¬ ((k : Int) - 1 < 0) := by omega
          simp [go_sem]
          omega
        clear g1 g2 g3
      case' inl =>
        have i1 : decide ((0 : Int) < (k : Int)) = false := by simp; omega
        have i2 : decide (0 < k) = false := by simp; omega
        clear h0
      all_goals
        clear HC HV
        go_wp2_with fail
        go_region_law
          ((refine step_append_sn _ (by rfl) _ _ 27 5 Tryz.underlying27 (by rfl) B sv k (safe.take k) (by rfl) (HSV.out.1.drew) dv (data.drop k) (by rfl) (HDV.out.1.below (Below.refl _ _).drew) (by omega) hB ?_; intro ao c w1 ho1 hg1 hl1; have b0 := (hg1.out.cell_far ⟨p, 0, none⟩ (by simpa using hpl) (Ne.symm hvs')).trans c0; have b1 := (hg1.out.cell_far ⟨p, 1, none⟩ (by simpa using hpl) (Ne.symm hvs')).trans c1; have b2 := (hg1.out.cell_far ⟨p, 2, none⟩ (by simpa using hpl) (Ne.symm hvs')).trans c2; have b3 := (hg1.out.cell_far ⟨p, 3, none⟩ (by simpa using hpl) (Ne.symm hvs')).trans c3; have b4 := (hg1.out.cell_far ⟨p, 4, none⟩ (by simpa using hpl) (Ne.symm hvs')).trans c4; have bf : (∀ o, w1.frozen? ⟨p, o, none⟩ = false) := (fun o => (hg1.out.frozen_far ⟨p, o, none⟩ (by simpa using hpl) (Ne.symm hvs')).trans (ff o))))
      all_goals
        have h := H.out
        have ge1 : w1.heap[p]? = some (.cells #[vs, vp, vd, vf, .int .i64 peak] 96 (0, 0)) := (hg1.out.block p (by simpa using hpl) (Ne.symm hvs')).trans h.blk
        have K0 : Kept (fun j => vs.ownBlock = some j) w w1 := (Kept.refl _ w).drew.grown hg1.out (fun j _ e => by rw [← hve]; exact e)
        have hdat : safe.take k ++ data.drop k = data := by rw [← HP.out, List.take_append_drop]
        have ho2 := ho1.out
        rw [hdat] at ho2
        have hlen : k + (data.drop k).length = k + t := by rw [hds]
        rw [hlen] at ho2
        have hl2 := hl1.out
        rw [hlen] at hl2
        obtain ⟨V, hV⟩ : ∃ V, V = Value.slice ao (k + t) c := ⟨_, rfl⟩
        rw [← hV] at ho2 hl2
        have hVp : V.ownBlock ≠ some p := own_ne_blk ho2 ge1 (by decide)
        have K1 : Kept (fun j => j = p) w1 (w1.setCell ⟨p, 0, none⟩ V) := (Kept.refl (fun j => j = p) w1).setCell (p := ⟨p, 0, none⟩) (fun _ => rfl) _
        have g1 : (w1.setCell ⟨p, 0, none⟩ V).heap[p]? = some (.cells #[V, vp, vd, vf, .int .i64 peak] 96 (0, 0)) := set_block (i := 0) ge1 _
        have o1 := ownsRow_kept ho2 K1 (fun j hj e => by subst e; exact hVp hj)
        have o2 := ownsRow_kept (ownsRow_kept h.od K0 (fun j hj e => h.sep j e hj)) K1 (fun j hj e => by subst e; exact hvd hj)
        have o3 := ownsRow_kept (ownsRow_kept h.of K0 (fun j hj e => own_ne h.of h.os (by decide) j hj e)) K1 (fun j hj e => by subst e; exact hvf hj)
        have sp : ∀ j, V.ownBlock = some j → vd.ownBlock ≠ some j := by
          intro j e1 e2
          rcases hl2 with e3 | e3
          · rw [e3, hve] at e1; exact h.sep j e1 e2
          · rw [e3] at e1; injection e1 with e1
            have := (h.od.lt j e2).2
            simp at e1
            omega
        have hVl : V.ownBlock = vs.ownBlock ∨ ∃ k, w.heap.size ≤ k ∧ V.ownBlock = some k := by
          rcases hl2 with e3 | e3
          · exact .inl (e3.trans hve)
          · exact .inr ⟨_, by simp, e3⟩
        have HVL := hid hVl
        clear hVl
        have kk : Kept (fun j => j = p ∨ vs.ownBlock = some j ∨ vf.ownBlock = some j) w (w1.setCell ⟨p, 0, none⟩ V) := (K0.mono (fun i _ e => .inr (.inl e))).trans K1 (fun i _ e => .inl e)
        rw [← hV]
        obtain ⟨W1, hW1⟩ : ∃ W1, W1 = w1.setCell ⟨p, 0, none⟩ V := ⟨_, rfl⟩
        rw [← hW1] at g1 o1 o2 o3 kk ⊢
        obtain ⟨x0, x1, x2, x3, x4⟩ := cells5 g1
        rw [hvf2] at x3
        have xf : ∀ o, W1.frozen? ⟨p, o, none⟩ = false := fun o => free_of_block g1
        rw [frs_len] at o3
        have HG := hid (And.intro g1 (And.intro o1 (And.intro o2 (And.intro o3 (And.intro sp kk)))))
        have HV := hid hV
        clear hW1 g1 o1 o2 o3 sp kk K0 K1 ge1 ho1 hg1 hl1 ho2 hl2 h b0 b1 b2 b3 b4 bf c0 c1 c2 c3 c4 ff hdat hV
        go_wp2_with (first
          | (refine wpList_clear _ rfl _ rfl fv rfl (fun w' => w'.ownsRow B 4 1 vf (k + t) (BB ((frs k t).take k ++ List.replicate (k + t - k) false)) ∧ W1.grownBy w' vf.ownBlock) (fun ty => HFV.out W1 ty HG.out.2.2.2.1) ?_
             intro w2 hr2
             have y0 := (hr2.out.2.cell_far ⟨p, 0, none⟩ (hp_lt HG.out.1) (Ne.symm hvf)).trans x0
             have y1 := (hr2.out.2.cell_far ⟨p, 1, none⟩ (hp_lt HG.out.1) (Ne.symm hvf)).trans x1
             have y4 := (hr2.out.2.cell_far ⟨p, 4, none⟩ (hp_lt HG.out.1) (Ne.symm hvf)).trans x4
             have yf := (show ∀ o, w2.frozen? ⟨p, o, none⟩ = false from fun o => (hr2.out.2.frozen_far ⟨p, o, none⟩ (hp_lt HG.out.1) (Ne.symm hvf)).trans (xf o))
             rw [HV.out] at y0))
      all_goals
        go_end0
        obtain ⟨g1, o1, o2, o3, sp, kk⟩ := HG.out
        obtain ⟨r1, r2⟩ := hr2.out
        have g2 : w2.heap[p]? = some (.cells #[V, vp, vd, vf, .int .i64 peak] 96 (0, 0)) := (r2.block p (hp_lt g1) (Ne.symm hvf)).trans g1
        have K2 : Kept (fun j => vf.ownBlock = some j) W1 w2 := (Kept.refl _ W1).grown r2 (fun j _ e => e)
        have K3 : Kept (fun j => j = p) w2 ((w2.setCell ⟨p, 1, none⟩ (.slice none 0 0)).setCell ⟨p, 4, none⟩ (.int .i64 ((k : Int) + (t : Int)))) := ((Kept.refl (fun j => j = p) w2).setCell (p := ⟨p, 1, none⟩) (fun _ => rfl) _).setCell (p := ⟨p, 4, none⟩) (fun _ => rfl) _
        have hVp : V.ownBlock ≠ some p := own_ne_blk o1 g1 (by decide)
        have hll := HL.out
        have hfr : (frs k t).take k ++ List.replicate (k + t - k) false = frs (k + t) 0 := by
          simp only [frs, List.replicate_zero, List.append_nil]
          rw [List.take_left' (by simp), List.replicate_append_replicate]
          congr 1
          omega
        rw [hfr] at r1
        refine ⟨rfl, V, ⟨?_, ?_, ?_, ?_, ?_, sp⟩, (kk.trans K2 (fun i _ e => .inr (.inr e))).trans K3 (fun i _ e => .inl e), HVL.out⟩
        · rw [show ((data.length : Nat) : Int) = (k : Int) + (t : Int) by omega]
          exact set_block (i := 4) (set_block (i := 1) g2 _) _
        · rw [hll]
          exact ownsRow_kept (ownsRow_kept o1 K2 (fun j hj e => own_ne o1 o3 (by decide) j hj e)) K3 (fun j hj e => by subst e; exact hVp hj)
        · exact owns_nil _ _ _ _
        · exact ownsRow_kept (ownsRow_kept o2 K2 (fun j hj e => own_ne o2 o3 (by decide) j hj e)) K3 (fun j hj e => by subst e; exact hvd hj)
        · rw [frs_len, Nat.add_zero]
          exact ownsRow_kept r1 K3 (fun j hj e => by subst e; exact hvf hj)

end Go.Proofs.YtlmompdfombgeabGreat

namespace Go.Proofs.YtlmompdfombgeabGreat
open Go.RowKit

/-- v[:k] of an owned row of bools. -/
theorem ownB_to {w : World} {B n : Nat} {v : Value} {xs : List Bool} (h : w.ownsRow B 4 1 v n (BB xs)) (k : Nat) (hk : k ≤ n) :
    ∃ rv, (∀ wx : World, (Instr.slice 92 v none (some (.int .i64 k)) none).run Tryz.prog wx = .ok rv wx) ∧ w.ownsRow B 4 1 rv k (BB (xs.take k)) ∧ rv.ownBlock = v.ownBlock := by
  have hl : xs.length = n := by have := h.1; simp at this; omega
  rcases h.2 with ⟨rfl, h0⟩ | ⟨g, cap, cur, rfl, hb, hg, hc, hm, hs, ht⟩
  · obtain rfl : k = 0 := by omega
    refine ⟨.slice none 0 0, fun wx => ?_, by simpa using owns_nil w B 4 1, rfl⟩
    rw [run_slice_h wx 92 none 0 0 Tryz.elem92 .i64 ((0 : Nat) : Int) (by omega) (by omega), size4]
    rfl
  · refine ⟨.slice (some ⟨g, 0, none⟩) k cap, fun wx => ?_, ⟨by simp [hl]; omega, .inr ⟨g, cap, cur, rfl, hb, hg, by omega, hm, hs, ?_⟩⟩, rfl⟩
    · rw [run_slice_h wx 92 (some ⟨g, 0, none⟩) n cap Tryz.elem92 .i64 k (by omega) (by omega), size4]
      simp [sliced, add_lit]
    · have : (cur.toList.take (n * 1)).take (k * 1) = (BB xs).take (k * 1) := by rw [ht]
      rw [List.take_take, Nat.min_eq_left (by omega)] at this
      rw [this, ← List.map_take]
      simp

set_option maxRecDepth 100000 in
set_option maxHeartbeats 1600000 in
theorem doCut_any (B c : Nat) (vd vf : Value) (xs : List Int) (fs : List Bool) (w : World) (hd : w.ownsRow B 5 1 vd xs.length (B8 xs)) (hf : w.ownsRow B 4 1 vf fs.length (BB fs)) (hc : c ≤ xs.length) (hc2 : c ≤ fs.length) (_hl : xs.length ≤ 1000000000) :
    Calls Tryz.prog 139 #[.int .i64 c, .agg #[vd, vf]] w fun x w' => ∃ vd' vf', x = .returned (.agg #[vd', vf']) ∧ w'.ownsRow B 5 1 vd' c (B8 (xs.take c)) ∧ w'.ownsRow B 4 1 vf' c (BB (fs.take c)) ∧ vd'.ownBlock = vd.ownBlock ∧ vf'.ownBlock = vf.ownBlock ∧ Below w.heap.size w w' := by
  obtain ⟨rd, hr1, ho1, hb1⟩ := own_to hd c hc
  obtain ⟨rf, hr2, ho2, hb2⟩ := ownB_to hf c hc2
  obtain ⟨ao, cp, rfl⟩ := own_shape hd
  obtain ⟨af, cf, rfl⟩ := own_shape hf
  obtain ⟨bo, bp, rfl⟩ := own_shape ho1
  obtain ⟨bf, bg, rfl⟩ := own_shape ho2
  have HX := hid (And.intro ho1 (And.intro ho2 (And.intro hb1 hb2)))
  clear hd hf ho1 ho2 hb1 hb2
  go_enter Tryz.func139, Tryz.ntmps139
  go_wp2
  go_region
  go_wp2
  refine bodyPost_ret (v := .agg #[.slice bo c bp, .slice bf c bg]) (by simp [results, Tryz.results139, go_sem]) rfl ?_
  obtain ⟨ho1, ho2, hb1, hb2⟩ := HX.out
  have hb : Below w.heap.size w ((w.alloc (.cells #[.slice ao xs.length cp, .slice af fs.length cf] 94)).alloc (.cells #[.slice bo c bp, .slice bf c bg] 94)).drew := (((Below.refl _ _).alloc (Nat.le_refl _) _).alloc (by simp) _).drew
  refine ⟨_, _, rfl, ?_, ?_, hb1, hb2, ?_⟩
  · exact ownsRow_kept ho1 (Kept.ofBelow hb) (fun _ _ e => e)
  · exact ownsRow_kept ho2 (Kept.ofBelow hb) (fun _ _ e => e)
  · exact hb

end Go.Proofs.YtlmompdfombgeabGreat

namespace Go.Proofs.YtlmompdfombgeabGreat
open Go.RowKit Go.MapKept

theorem nilAhead125 (sv : Value) (w : World) : (nilAhead 299 124 sv "treadle/disk.do").run Tryz.prog w = .ok (some false) w := by kernel_rfl
theorem method125 (sv : Value) (w : World) : (method 299 124 sv "treadle/disk.do").run Tryz.prog w = .ok (139, sv) w := by kernel_rfl

set_option maxRecDepth 100000 in
set_option maxHeartbeats 1600000 in
theorem pendCut_any (B p c : Nat) (w : World) (safe : List Int) (pend : List Value) (data : List Int) (fresh : List Bool) (peak : Int) (vs vp vd vf : Value) (h : FileAt w B p safe pend data fresh peak vs vp vd vf) (hB : B ≤ w.heap.size)
    (l1 : pend.length ≤ 1000000) (l2 : data.length ≤ 100000000) (hc : c ≤ data.length) (hc2 : c ≤ fresh.length) (_hp0 : 0 ≤ peak) (_hp1 : peak ≤ 1000000000) (hpk : (c : Int) ≤ peak) :
    Calls Tryz.prog 58 #[.pointer (some ⟨p, 0, none⟩), .iface 124 (.int .i64 c)] w fun x w' => x = .returned (.tuple #[]) ∧ ∃ vp' vd' vf', FileAt w' B p safe (pend ++ [.iface 124 (.int .i64 c)]) (data.take c) (fresh.take c) peak vs vp' vd' vf' ∧
      vd'.ownBlock = vd.ownBlock ∧ Kept (fun k => k = p ∨ vp.ownBlock = some k) w w' ∧ (vp'.ownBlock = vp.ownBlock ∨ ∃ k, w.heap.size ≤ k ∧ vp'.ownBlock = some k) ∧ vf'.ownBlock = vf.ownBlock := by
  obtain ⟨c0, c1, c2, c3, c4⟩ := cells5 h.blk
  have ff : ∀ o, w.frozen? ⟨p, o, none⟩ = false := fun o => free_of_block h.blk
  obtain ⟨ii, hii, hz0, hz1, hz2⟩ := info_parts Tryz.info134
  have hvp : vp.ownBlock ≠ some p := own_ne_blk h.op h.blk (by decide)
  have hvd : vd.ownBlock ≠ some p := own_ne_blk h.od h.blk (by decide)
  have hvf : vf.ownBlock ≠ some p := own_ne_blk h.of h.blk (by decide)
  have hvs : vs.ownBlock ≠ some p := own_ne_blk h.os h.blk (by decide)
  have hpl := hp_lt h.blk
  have hnw := World.new_ne w ⟨p, 1, none⟩ c1
  have H := hid h
  obtain ⟨ap, cp, rfl⟩ := own_shape h.op
  obtain ⟨ad, cd, rfl⟩ := own_shape h.od
  obtain ⟨af, cf, rfl⟩ := own_shape h.of
  clear h
  go_enter Tryz.func58, Tryz.ntmps58
  go_wp2_with (first
    | (at_builtin
       refine wpList_append_lies _ rfl _ _ 91 rfl B 134 ii _ 1 16 Tryz.underlying91 hii hz0 hz1 hz2 rfl (by omega) _ pend.length pend rfl (H.out.op.alloc _) ⟨w.heap.size, 0, none⟩ 1 1 [.iface 124 (.int .i64 c)] rfl rfl (World.news_of_block (cs := #[.iface 124 (.int .i64 c)]) (t := 134) (fr := (0, 0)) (heap_alloc_new w _)) (by simp [Value.oneCell']) (by omega) (by unfold maxLen; omega) (by omega) (by simp; omega) (w.heap.size + 1) (by simp) ?_
       intro gg cq w1 hown hgrow hat hgl
       have b1 := (hgrow.cell_far ⟨p, 1, none⟩ (by simp; omega) (Ne.symm hvp)).trans ((World.cell?_alloc_past _ _ _ (by simpa using hpl)).trans c1)
       have f1 := (hgrow.frozen_far ⟨p, 1, none⟩ (by simp; omega) (Ne.symm hvp)).trans ((frozen?_alloc_cells _ _ _ _).trans (ff 1))
       have HG := hid (And.intro hown (And.intro hgrow hat))
       clear hown hgrow hat))
  have hfile : FileAt (w1.setCell ⟨p, 1, none⟩ (.slice (some ⟨gg, 0, none⟩) (pend.length + 1) cq)) B p safe (pend ++ [.iface 124 (.int .i64 c)]) data fresh peak vs (.slice (some ⟨gg, 0, none⟩) (pend.length + 1) cq) (.slice ad data.length cd) (.slice af fresh.length cf) ∧ Kept (fun k => k = p ∨ (Value.slice ap pend.length cp).ownBlock = some k) w (w1.setCell ⟨p, 1, none⟩ (.slice (some ⟨gg, 0, none⟩) (pend.length + 1) cq)) ∧ ((Value.slice (some ⟨gg, 0, none⟩) (pend.length + 1) cq).ownBlock = (Value.slice ap pend.length cp).ownBlock ∨ ∃ k, w.heap.size ≤ k ∧ (Value.slice (some ⟨gg, 0, none⟩) (pend.length + 1) cq).ownBlock = some k) := by
    obtain ⟨hown, hgrow, hat⟩ := HG.out
    have h := H.out
    have g0 := (hgrow.block p (by simp; omega) (Ne.symm hvp)).trans (hp_alloc h.blk _)
    have K0 : Kept (fun k => (Value.slice ap pend.length cp).ownBlock = some k) w w1 := ((Kept.refl _ w).alloc _).grown hgrow (fun k _ e => e)
    have K1 : Kept (fun k => k = p) w1 (w1.setCell ⟨p, 1, none⟩ (.slice (some ⟨gg, 0, none⟩) (pend.length + 1) cq)) := (Kept.refl (fun k => k = p) w1).setCell (p := ⟨p, 1, none⟩) (fun _ => rfl) _
    have hgp : gg ≠ p := by
      intro e
      rcases hat with h | h
      · rw [e] at h; exact hvp h
      · omega
    refine ⟨⟨set_block (i := 1) g0 _, ?_, ?_, ?_, ?_, h.sep⟩, ?_, ?_⟩
    · exact ownsRow_kept (ownsRow_kept h.os K0 (fun k hk e => own_ne h.os h.op (by decide) k hk e)) K1 (fun k hk e => by subst e; exact hvs hk)
    · have := ownsRow_kept hown K1 (fun k hk e => by simp [Value.ownBlock] at hk; omega)
      simpa using this
    · exact ownsRow_kept (ownsRow_kept h.od K0 (fun k hk e => own_ne h.od h.op (by decide) k hk e)) K1 (fun k hk e => by subst e; exact hvd hk)
    · exact ownsRow_kept (ownsRow_kept h.of K0 (fun k hk e => own_ne h.of h.op (by decide) k hk e)) K1 (fun k hk e => by subst e; exact hvf hk)
    · exact (K0.mono (fun i _ e => .inr e)).trans K1 (fun i _ e => .inl e)
    · rcases hat with h | h
      · exact .inl h.symm
      · exact .inr ⟨gg, by omega, rfl⟩
  obtain ⟨W, hW⟩ : ∃ W, W = w1.setCell ⟨p, 1, none⟩ (.slice (some ⟨gg, 0, none⟩) (pend.length + 1) cq) := ⟨_, rfl⟩
  rw [← hW] at hfile ⊢
  obtain ⟨hf1, hk1, hgv⟩ := hfile
  have HGV := hid hgv
  clear hgv
  obtain ⟨e0, e1, e2, e3, e4⟩ := cells5 hf1.blk
  have gf : ∀ o, W.frozen? ⟨p, o, none⟩ = false := fun o => free_of_block hf1.blk
  have HF1 := hid hf1
  have HK1 := hid hk1
  have hmf : ∀ (fn : Fn) (first cap : Array Value) (w : World), (Instr.makeFunc fn first cap).run Tryz.prog w = .ok (.func fn first cap) w := fun _ _ _ _ => rfl
  have hna := nilAhead125 (.int .i64 c)
  have hmt := method125 (.int .i64 c)
  clear hf1 hk1 hW b1 f1 HG c0 c1 c2 c3 c4 ff hnw
  go_region_with (
    go_at_call 139
    refine (doCut_any B c _ _ data fresh W.drew HF1.out.od HF1.out.of hc hc2 (by omega)).mono ?_
    rintro e w2 ⟨vd', vf', rfl, hd2, hf2, hl1, hl2, hk2⟩
    obtain ⟨ad', cd', rfl⟩ := own_shape hd2
    obtain ⟨af', cf', rfl⟩ := own_shape hf2
    have hblk2 := (show w2.heap[p]? = some (.cells #[vs, .slice (some ⟨gg, 0, none⟩) (pend.length + 1) cq, .slice ad data.length cd, .slice af fresh.length cf, .int .i64 peak] 96 (0, 0)) from (hk2.block p (hp_lt HF1.out.blk)).trans HF1.out.blk)
    obtain ⟨-, -, g2, g3, -⟩ := cells5 hblk2
    have gg2 := (show ∀ o, w2.frozen? ⟨p, o, none⟩ = false from fun o => free_of_block hblk2)
    have HX := hid (And.intro hblk2 (And.intro hd2 (And.intro hf2 (And.intro hl1 (And.intro hl2 hk2)))))
    clear hd2 hf2 hl1 hl2 hk2 hblk2)
  all_goals
    have hfin : FileAt ((w2.setCell ⟨p, 2, none⟩ (.slice ad' c cd')).setCell ⟨p, 3, none⟩ (.slice af' c cf')) B p safe (pend ++ [.iface 124 (.int .i64 c)]) (data.take c) (fresh.take c) peak vs (.slice (some ⟨gg, 0, none⟩) (pend.length + 1) cq) (.slice ad' c cd') (.slice af' c cf') ∧
        Kept (fun k => k = p ∨ (Value.slice ap pend.length cp).ownBlock = some k) w ((w2.setCell ⟨p, 2, none⟩ (.slice ad' c cd')).setCell ⟨p, 3, none⟩ (.slice af' c cf')) ∧ (Value.slice ad' c cd').ownBlock = (Value.slice ad data.length cd).ownBlock ∧ (Value.slice af' c cf').ownBlock = (Value.slice af fresh.length cf).ownBlock := by
      obtain ⟨hblk2, hd2, hf2, hl1, hl2, hk2⟩ := HX.out
      have h := HF1.out
      have K2 : Kept (fun _ => False) W w2 := ⟨hk2.os, hk2.tape, hk2.output, hk2.size, fun k hk _ => hk2.block k hk⟩
      have K3 : Kept (fun k => k = p) w2 ((w2.setCell ⟨p, 2, none⟩ (.slice ad' c cd')).setCell ⟨p, 3, none⟩ (.slice af' c cf')) := ((Kept.refl (fun k => k = p) w2).setCell (p := ⟨p, 2, none⟩) (fun _ => rfl) _).setCell (p := ⟨p, 3, none⟩) (fun _ => rfl) _
      have ed : (Value.slice ad' c cd').ownBlock ≠ some p := own_ne_blk hd2 hblk2 (by decide)
      have ef : (Value.slice af' c cf').ownBlock ≠ some p := own_ne_blk hf2 hblk2 (by decide)
      have hdl : (data.take c).length = c := by simp; omega
      have hfl : (fresh.take c).length = c := by simp; omega
      refine ⟨⟨set_block (i := 3) (set_block (i := 2) hblk2 _) _, ?_, ?_, ?_, ?_, ?_⟩, ?_, hl1, hl2⟩
      · exact ownsRow_kept (ownsRow_kept h.os K2 (fun _ _ e => e)) K3 (fun k hk e => by subst e; exact hvs hk)
      · exact ownsRow_kept (ownsRow_kept h.op K2 (fun _ _ e => e)) K3 (fun k hk e => by subst e; exact own_ne_blk h.op h.blk (by decide) hk)
      · rw [hdl]
        exact ownsRow_kept hd2 K3 (fun k hk e => by subst e; exact ed hk)
      · rw [hfl]
        exact ownsRow_kept hf2 K3 (fun k hk e => by subst e; exact ef hk)
      · intro k hk e
        rw [hl1] at e
        exact h.sep k hk e
      · exact (HK1.out.trans K2 (fun _ _ e => e.elim)).trans K3 (fun i _ e => .inl e)
    obtain ⟨W2, hW2⟩ : ∃ W2, W2 = (w2.setCell ⟨p, 2, none⟩ (.slice ad' c cd')).setCell ⟨p, 3, none⟩ (.slice af' c cf') := ⟨_, rfl⟩
    rw [← hW2] at hfin ⊢
    obtain ⟨hf3, hk3, hl3⟩ := hfin
    obtain ⟨-, -, x2, -, x4⟩ := cells5 hf3.blk
    have xf : ∀ o, W2.frozen? ⟨p, o, none⟩ = false := fun o => free_of_block hf3.blk
    have HF3 := hid hf3
    have HK3 := hid (And.intro hk3 hl3)
    have hmx : max peak (c : Int) = peak := by omega
    clear hW2 hf3 hk3 hl3 HX g2 g3 gg2 HF1 HK1 e0 e1 e2 e3 e4 gf
    go_wp2_with fail
    go_region
    all_goals
      go_end0
      have h := HF3.out
      have K4 : Kept (fun k => k = p) W2 (W2.setCell ⟨p, 4, none⟩ (.int .i64 peak)).drew := ((Kept.refl (fun k => k = p) W2).setCell (p := ⟨p, 4, none⟩) (fun _ => rfl) _).drew
      refine ⟨rfl, _, _, _, ⟨set_block (i := 4) h.blk _, ownsRow_kept h.os K4 (fun k hk e => by subst e; exact hvs hk), ownsRow_kept h.op K4 (fun k hk e => by subst e; exact own_ne_blk h.op h.blk (by decide) hk), ownsRow_kept h.od K4 (fun k hk e => by subst e; exact own_ne_blk h.od h.blk (by decide) hk), ownsRow_kept h.of K4 (fun k hk e => by subst e; exact own_ne_blk h.of h.blk (by decide) hk), h.sep⟩, HK3.out.2.1, HK3.out.1.trans K4 (fun i _ e => .inl e), HGV.out, HK3.out.2.2⟩

end Go.Proofs.YtlmompdfombgeabGreat

namespace Go.Proofs.YtlmompdfombgeabGreat
open Go.RowKit Go.MapKept

section
variable {B : Nat} {w : World} {d L Nb Fb p : Nat} {nm : ByteArray} {room limit : Int} {sf : Array MapEntry} {st rd : Int} {safe : List Int} {cs : List Chg} {data : List Int} {m t : Nat} {peak : Int} {nn : Nat} {xs : List Value} {vn k1 k2 : Value} {pend : List Value} {vs vp vd vf : Value} {cL bL cN bN cF : Nat}

set_option maxRecDepth 100000 in
set_option maxHeartbeats 1600000 in
theorem sync1_one (h : One B w d L Nb Fb p nm room limit sf st rd safe cs data (frs m t) peak nn xs vn k1 k2 pend vs vp vd vf cL bL cN bN cF) (hB : B ≤ w.heap.size) (hl : data.length = m + t) (hm : m ≤ safe.length) (hpre : data.take m = safe.take m) (l2 : data.length ≤ 100000000) (l3 : safe.length ≤ 100000000) :
    Calls Tryz.prog 50 #[.pointer (some ⟨p, 0, none⟩)] w fun x w' => x = .returned (.int .i64 0) ∧ ∃ vs', One B w' d L Nb Fb p nm room limit sf st rd data [] data (frs (m + t) 0) data.length nn xs vn k1 k2 [] vs' (.slice none 0 0) vd vf cL bL cN bN cF ∧ Below B w w' := by
  have H := hid h
  have HC := hid (sync_any B p w safe pend data m t peak vs vp vd vf h.file hB hl hm hpre l2 l3)
  clear h
  go_enter Tryz.func50, Tryz.ntmps50
  go_wp2_with (
    go_at_call 51
    refine HC.out.mono ?_
    rintro e w2 ⟨rfl, vs', hf, hk, -⟩
    have HX := hid (And.intro hf hk)
    clear hf hk)
  go_ret
  obtain ⟨hf, hk⟩ := HX.out
  obtain ⟨q1, q2⟩ := H.out.change (hk.mono (by
    rintro i _ (e | e | e)
    · exact .inl e
    · exact .inr (.inl e)
    · exact .inr (.inr (.inr (.inr e))))) hf (Pends.nil _ _ _ _)
  exact ⟨rfl, vs', q1, q2⟩

set_option maxRecDepth 100000 in
set_option maxHeartbeats 1600000 in
theorem sync_one (h : One B w d L Nb Fb p nm room limit sf st rd safe cs data (frs m t) peak nn xs vn k1 k2 pend vs vp vd vf cL bL cN bN cF) (hB : B ≤ w.heap.size) (hl : data.length = m + t) (hm : m ≤ safe.length) (hpre : data.take m = safe.take m) (l2 : data.length ≤ 100000000) (l3 : safe.length ≤ 100000000) (hok : nmOK nm = true) (hs : nm.size ≤ maxLen) (hst0 : 0 ≤ st) (hst : st ≤ 1000000) :
    Calls Tryz.prog 17 #[.pointer (some ⟨d, 0, none⟩), .string nm] w fun x w' => x = .returned (.int .i64 0) ∧ ∃ vs', One B w' d L Nb Fb p nm room limit sf (st + 1) rd data [] data (frs (m + t) 0) data.length nn xs vn k1 k2 [] vs' (.slice none 0 0) vd vf cL bL cN bN cF ∧ Below B w w' := by
  have hmf : ∀ (fn : Fn) (first cap : Array Value) (w : World), (Instr.makeFunc fn first cap).run Tryz.prog w = .ok (.func fn first cap) w := fun _ _ _ _ => rfl
  have hcall : Calls Tryz.prog 49 #[.pointer (some ⟨d, 0, none⟩), .agg #[.slice (some ⟨w.heap.size, 0, none⟩) 1 1, .bool false, .int .i64 0], .func (.func 50) #[] #[]]
      (w.alloc (.cells #[.string nm] 9)) fun x w3 => x = .returned (.int .i64 0) ∧ ∃ vs', One B w3 d L Nb Fb p nm room limit sf (st + 1) rd data [] data (frs (m + t) 0) data.length nn xs vn k1 k2 [] vs' (.slice none 0 0) vd vf cL bL cN bN cF ∧ Below B w w3 := by
    have hb0 : Below w.heap.size w (w.alloc (.cells #[.string nm] 9)) := (Below.refl _ _).alloc (Nat.le_refl _) _
    have g2 : (w.alloc (.cells #[.string nm] 9)).cell? ⟨w.heap.size, 0, none⟩ = some (.string nm) := by simp [go_sem]
    refine stroke_there (h.below hb0) w.heap.size 0 g2 hok hs (by omega) (by omega) hst0 hst 50 _ 0 _ (enters_of Tryz.func50 (by kernel_rfl) rfl) ?_
    intro w2 ho2 hk2
    refine (sync1_one ho2 (Nat.le_trans hB (Nat.le_trans hb0.size hk2.size)) hl hm hpre l2 l3).mono ?_
    rintro e w3 ⟨rfl, vs', hO, hb⟩
    refine ⟨rfl, vs', hO, ?_⟩
    exact ((hb0.mono hB).trans (hk2.below (Nat.le_trans hB hb0.size) (fun k hk e => by have := h.ge; omega))).trans hb
  have HC := hid hcall
  clear h hcall
  go_enter Tryz.func17, Tryz.ntmps17
  go_wp2_with (
    go_at_call 49
    refine HC.out.mono ?_
    rintro e w3 ⟨rfl, hx⟩
    have HX := hid hx
    clear hx)
  go_ret
  exact ⟨rfl, HX.out⟩

end
end Go.Proofs.YtlmompdfombgeabGreat
