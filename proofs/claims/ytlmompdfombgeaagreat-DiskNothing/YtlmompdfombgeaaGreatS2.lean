import Derived.Test.YtlmompdfombgeaaGreatS1
import Derived.Test.YtlmompdfombgeaaGreatO3
namespace Go.Proofs.YtlmompdfombgeaaGreat
open Go.RowKit

/-- Which bytes a change brought: the last t of them. -/
def frs (m t : Nat) : List Bool := List.replicate m false ++ List.replicate t true

theorem frs_len (m t : Nat) : (frs m t).length = m + t := by simp [frs]
theorem frs_get (m t k : Nat) (h : k < m + t) : (frs m t)[k]? = some (decide (m ≤ k)) := by
  unfold frs
  rw [List.getElem?_append]
  split
  · rename_i h1
    simp at h1
    have : ¬ m ≤ k := by omega
    simp [h1, this]
  · rename_i h1
    simp at h1
    rw [List.getElem?_replicate, if_pos (by simp; omega)]
    simp [h1]
theorem frs_app (m t n : Nat) : frs m t ++ List.replicate n true = frs m (t + n) := by
  simp [frs, List.append_assoc]
theorem frs_zero (m : Nat) : frs m 0 = List.replicate m false := by simp [frs]

set_option maxRecDepth 100000 in
set_option maxHeartbeats 1600000 in
theorem sync_any (B p : Nat) (w : World) (safe : List Int) (pend : List Value) (data : List Int) (m t : Nat) (peak : Int) (vs vp vd vf : Value) (h : FileAt w B p safe pend data (frs m t) peak vs vp vd vf) (hB : B ≤ w.heap.size) (hl : data.length = m + t) (hm : m ≤ safe.length) (hpre : data.take m = safe.take m) (l2 : data.length ≤ 100000000) (l3 : safe.length ≤ 100000000) :
    Calls Tryz.prog 84 #[.pointer (some ⟨p, 0, none⟩)] w fun x w' => x = .returned (.tuple #[]) ∧ ∃ vs', FileAt w' B p data [] data (frs (m + t) 0) data.length vs' (.slice none 0 0) vd vf ∧ Kept (fun k => k = p ∨ vs.ownBlock = some k ∨ vf.ownBlock = some k) w w' := by
  obtain ⟨c0, c1, c2, c3, c4⟩ := cells5 h.blk
  have ff : ∀ o, w.frozen? ⟨p, o, none⟩ = false := fun o => free_of_block h.blk
  have hpl := hp_lt h.blk
  have hvd : vd.ownBlock ≠ some p := own_ne_blk h.od h.blk (by decide)
  have hvf : vf.ownBlock ≠ some p := own_ne_blk h.of h.blk (by decide)
  have hvs : vs.ownBlock ≠ some p := own_ne_blk h.os h.blk (by decide)
  obtain ⟨sv, hsv1, hsv2, hsv3⟩ := own_to h.os m hm
  obtain ⟨dv, hdv1, hdv2, hdv3⟩ := sn_from (sn_of_owns h.od) m (by omega)
  have hfo := h.of
  rw [frs_len] at hfo
  obtain ⟨fv, hfv1, hfv2⟩ := clear_from hfo m (by omega)
  have hcell : ∀ k, k < m + t → ∀ g cap, vf = .slice (some ⟨g, 0, none⟩) (m + t) cap → w.cell? ⟨g, k, none⟩ = some (.bool (decide (m ≤ k))) := by
    intro k hk g cap hg
    have := hfo.cells (g := g) (by rw [hg]; rfl) k (.bool (decide (m ≤ k))) (by simp [BB, frs_get m t k hk])
    rwa [add_lit, Nat.zero_add] at this
  have hvfs : m + t = 0 ∨ ∃ g cap, vf = .slice (some ⟨g, 0, none⟩) (m + t) cap := by
    rcases hfo.2 with ⟨_, h2⟩ | ⟨g, cap, cur, h2, _⟩
    · exact .inl h2
    · exact .inr ⟨g, cap, h2⟩
  obtain ⟨ad, cd, hvd2⟩ := own_shape h.od
  rw [hvd2] at c2
  have H := hid h
  have HC := hid hcell
  have HV := hid hvfs
  have HSV := hid (And.intro hsv2 hsv3)
  have HDV := hid (And.intro hdv2 hdv3)
  have HFV := hid hfv2
  have HP := hid hpre
  have hvfo := own_shape hfo
  obtain ⟨af, cf, hvf2⟩ := hvfo
  rw [hvf2] at c3 hfv1
  rw [hvd2] at hdv1
  have HL := hid hl
  clear h hcell hvfs hsv2 hsv3 hdv2 hdv3 hfv2 hpre hfo
  rw [show (data.length : Nat) = m + t from hl] at c2 hdv1 l2
  clear hl
  go_enter Tryz.func84, Tryz.ntmps84
  go_wp2
  go_loop [2] (fun i => ∃ k : Nat, m ≤ k ∧ k ≤ m + t ∧ i = .int .i64 k) (fun i => (intOf i).toNat)
  case atStart => exact ⟨m + t, by omega, by omega, by go_num⟩
  case round =>
    obtain ⟨k, hk1, hk2, rfl⟩ := hrel
    by_cases hgt : m < k
    · obtain ⟨g, cap, hg⟩ := HV.out.resolve_left (by omega)
      have hx := HC.out (k - 1) (by omega) g cap hg
      have hd1 : decide (m ≤ k - 1) = true := by simp; omega
      rw [hd1] at hx
      rw [hvf2] at hg
      injection hg with g1 g2 g3
      subst g1
      have i1 : (0 : Int) < (k : Int) := by omega
      have i2 : (0 : Int) ≤ (k : Int) - 1 := by omega
      have i3 : (k : Int) - 1 < ((m + t : Nat) : Int) := by omega
      have hx2 : w.cell? ⟨g, ((k : Int) - 1).toNat, none⟩ = some (.bool true) := by rw [show ((k : Int) - 1).toNat = k - 1 by omega]; exact hx
      go_wp2
      go_round
      case rel => exact ⟨k - 1, by omega, by omega, by rw [show ((k - 1 : Nat) : Int) = (k : Int) - 1 by omega]⟩
      case measure => simp [intOf]; omega
    · obtain rfl : k = m := by omega
      have hgo : (k = 0) ∨ (∃ g cap, vf = .slice (some ⟨g, 0, none⟩) (k + t) cap ∧ 0 < k ∧ w.cell? ⟨g, k - 1, none⟩ = some (.bool false)) := by
        rcases Nat.eq_zero_or_pos k with h0 | h0
        · exact .inl h0
        · obtain ⟨g, cap, hg⟩ := HV.out.resolve_left (by omega)
          have hx := HC.out (k - 1) (by omega) g cap hg
          have hd1 : decide (k ≤ k - 1) = false := by simp; omega
          rw [hd1] at hx
          exact .inr ⟨g, cap, hg, h0, hx⟩
      have hds : (data.drop k).length = t := by have := HL.out; simp; omega
      have hve : sv.ownBlock = vs.ownBlock := HSV.out.2
      have hvs' : sv.ownBlock ≠ some p := by rw [hve]; exact hvs
      have hpw := World.new_ne w ⟨p, 0, none⟩ c0
      rcases hgo with h0 | ⟨g, cap, hg, h0, hx⟩
      case' inr =>
        rw [hvf2] at hg
        injection hg with g1 g2 g3
        have i1 : (0 : Int) < (k : Int) := by omega
        have i2 : (0 : Int) ≤ (k : Int) - 1 := by omega
        have i3 : (k : Int) - 1 < ((k + t : Nat) : Int) := by omega
        have hx2 : w.cell? ⟨g, k - 1, none⟩ = some (.bool false) := hx
        have hix : ∀ wx : World, (Instr.indexAt 107 (.slice af (k + t) cf) (.int .i64 ((k : Int) - 1))).run Tryz.prog wx = .ok (.pointer (some ⟨g, k - 1, none⟩)) wx := by
          intro wx
          rw [g1]
          have e1 : ¬ ((k : Int) - 1 < 0) := by omega
          simp [go_sem]
          omega
        clear g1 g2 g3
      case' inl =>
        have i1 : decide ((0 : Int) < (k : Int)) = false := by simp; omega
        have i2 : decide (0 < k) = false := by simp; omega
        clear h0
      all_goals
        clear HC HV
        go_wp2_with fail
        go_region_law
          ((refine step_append_sn _ (by rfl) _ _ 35 5 Tryz.underlying35 (by rfl) B sv k (safe.take k) (by rfl) (HSV.out.1.drew) dv (data.drop k) (by rfl) (HDV.out.1.below (Below.refl _ _).drew) (by omega) hB ?_; intro ao c w1 ho1 hg1 hl1; have b0 := (hg1.out.cell_far ⟨p, 0, none⟩ (by simpa using hpl) (Ne.symm hvs')).trans c0; have b1 := (hg1.out.cell_far ⟨p, 1, none⟩ (by simpa using hpl) (Ne.symm hvs')).trans c1; have b2 := (hg1.out.cell_far ⟨p, 2, none⟩ (by simpa using hpl) (Ne.symm hvs')).trans c2; have b3 := (hg1.out.cell_far ⟨p, 3, none⟩ (by simpa using hpl) (Ne.symm hvs')).trans c3; have b4 := (hg1.out.cell_far ⟨p, 4, none⟩ (by simpa using hpl) (Ne.symm hvs')).trans c4; have bf : (∀ o, w1.frozen? ⟨p, o, none⟩ = false) := (fun o => (hg1.out.frozen_far ⟨p, o, none⟩ (by simpa using hpl) (Ne.symm hvs')).trans (ff o))))
      all_goals
        have h := H.out
        have ge1 : w1.heap[p]? = some (.cells #[vs, vp, vd, vf, .int .i64 peak] 112 (0, 0)) := (hg1.out.block p (by simpa using hpl) (Ne.symm hvs')).trans h.blk
        have K0 : Kept (fun j => vs.ownBlock = some j) w w1 := (Kept.refl _ w).drew.grown hg1.out (fun j _ e => by rw [← hve]; exact e)
        have hdat : safe.take k ++ data.drop k = data := by rw [← HP.out, List.take_append_drop]
        have ho2 := ho1.out
        rw [hdat] at ho2
        have hlen : k + (data.drop k).length = k + t := by rw [hds]
        rw [hlen] at ho2
        have hl2 := hl1.out
        rw [hlen] at hl2
        obtain ⟨V, hV⟩ : ∃ V, V = Value.slice ao (k + t) c := ⟨_, rfl⟩
        rw [← hV] at ho2 hl2
        have hVp : V.ownBlock ≠ some p := own_ne_blk ho2 ge1 (by decide)
        have K1 : Kept (fun j => j = p) w1 (w1.setCell ⟨p, 0, none⟩ V) := (Kept.refl (fun j => j = p) w1).setCell (p := ⟨p, 0, none⟩) (fun _ => rfl) _
        have g1 : (w1.setCell ⟨p, 0, none⟩ V).heap[p]? = some (.cells #[V, vp, vd, vf, .int .i64 peak] 112 (0, 0)) := set_block (i := 0) ge1 _
        have o1 := ownsRow_kept ho2 K1 (fun j hj e => by subst e; exact hVp hj)
        have o2 := ownsRow_kept (ownsRow_kept h.od K0 (fun j hj e => h.sep j e hj)) K1 (fun j hj e => by subst e; exact hvd hj)
        have o3 := ownsRow_kept (ownsRow_kept h.of K0 (fun j hj e => own_ne h.of h.os (by decide) j hj e)) K1 (fun j hj e => by subst e; exact hvf hj)
        have sp : ∀ j, V.ownBlock = some j → vd.ownBlock ≠ some j := by
          intro j e1 e2
          rcases hl2 with e3 | e3
          · rw [e3, hve] at e1; exact h.sep j e1 e2
          · rw [e3] at e1; injection e1 with e1
            have := (h.od.lt j e2).2
            simp at e1
            omega
        have kk : Kept (fun j => j = p ∨ vs.ownBlock = some j ∨ vf.ownBlock = some j) w (w1.setCell ⟨p, 0, none⟩ V) := (K0.mono (fun i _ e => .inr (.inl e))).trans K1 (fun i _ e => .inl e)
        rw [← hV]
        obtain ⟨W1, hW1⟩ : ∃ W1, W1 = w1.setCell ⟨p, 0, none⟩ V := ⟨_, rfl⟩
        rw [← hW1] at g1 o1 o2 o3 kk ⊢
        obtain ⟨x0, x1, x2, x3, x4⟩ := cells5 g1
        rw [hvf2] at x3
        have xf : ∀ o, W1.frozen? ⟨p, o, none⟩ = false := fun o => free_of_block g1
        rw [frs_len] at o3
        have HG := hid (And.intro g1 (And.intro o1 (And.intro o2 (And.intro o3 (And.intro sp kk)))))
        have HV := hid hV
        clear hW1 g1 o1 o2 o3 sp kk K0 K1 ge1 ho1 hg1 hl1 ho2 hl2 h b0 b1 b2 b3 b4 bf c0 c1 c2 c3 c4 ff hdat hV
        go_wp2_with (first
          | (refine wpList_clear _ rfl _ rfl fv rfl (fun w' => w'.ownsRow B 4 1 vf (k + t) (BB ((frs k t).take k ++ List.replicate (k + t - k) false)) ∧ W1.grownBy w' vf.ownBlock) (fun ty => HFV.out W1 ty HG.out.2.2.2.1) ?_
             intro w2 hr2
             have y0 := (hr2.out.2.cell_far ⟨p, 0, none⟩ (hp_lt HG.out.1) (Ne.symm hvf)).trans x0
             have y1 := (hr2.out.2.cell_far ⟨p, 1, none⟩ (hp_lt HG.out.1) (Ne.symm hvf)).trans x1
             have y4 := (hr2.out.2.cell_far ⟨p, 4, none⟩ (hp_lt HG.out.1) (Ne.symm hvf)).trans x4
             have yf := (show ∀ o, w2.frozen? ⟨p, o, none⟩ = false from fun o => (hr2.out.2.frozen_far ⟨p, o, none⟩ (hp_lt HG.out.1) (Ne.symm hvf)).trans (xf o))
             rw [HV.out] at y0))
      all_goals
        go_end0
        obtain ⟨g1, o1, o2, o3, sp, kk⟩ := HG.out
        obtain ⟨r1, r2⟩ := hr2.out
        have g2 : w2.heap[p]? = some (.cells #[V, vp, vd, vf, .int .i64 peak] 112 (0, 0)) := (r2.block p (hp_lt g1) (Ne.symm hvf)).trans g1
        have K2 : Kept (fun j => vf.ownBlock = some j) W1 w2 := (Kept.refl _ W1).grown r2 (fun j _ e => e)
        have K3 : Kept (fun j => j = p) w2 ((w2.setCell ⟨p, 1, none⟩ (.slice none 0 0)).setCell ⟨p, 4, none⟩ (.int .i64 ((k : Int) + (t : Int)))) := ((Kept.refl (fun j => j = p) w2).setCell (p := ⟨p, 1, none⟩) (fun _ => rfl) _).setCell (p := ⟨p, 4, none⟩) (fun _ => rfl) _
        have hVp : V.ownBlock ≠ some p := own_ne_blk o1 g1 (by decide)
        have hll := HL.out
        have hfr : (frs k t).take k ++ List.replicate (k + t - k) false = frs (k + t) 0 := by
          simp only [frs, List.replicate_zero, List.append_nil]
          rw [List.take_left' (by simp), List.replicate_append_replicate]
          congr 1
          omega
        rw [hfr] at r1
        refine ⟨rfl, V, ⟨?_, ?_, ?_, ?_, ?_, sp⟩, (kk.trans K2 (fun i _ e => .inr (.inr e))).trans K3 (fun i _ e => .inl e)⟩
        · rw [show ((data.length : Nat) : Int) = (k : Int) + (t : Int) by omega]
          exact set_block (i := 4) (set_block (i := 1) g2 _) _
        · rw [hll]
          exact ownsRow_kept (ownsRow_kept o1 K2 (fun j hj e => own_ne o1 o3 (by decide) j hj e)) K3 (fun j hj e => by subst e; exact hVp hj)
        · exact owns_nil _ _ _ _
        · exact ownsRow_kept (ownsRow_kept o2 K2 (fun j hj e => own_ne o2 o3 (by decide) j hj e)) K3 (fun j hj e => by subst e; exact hvd hj)
        · rw [frs_len, Nat.add_zero]
          exact ownsRow_kept r1 K3 (fun j hj e => by subst e; exact hvf hj)

end Go.Proofs.YtlmompdfombgeaaGreat
