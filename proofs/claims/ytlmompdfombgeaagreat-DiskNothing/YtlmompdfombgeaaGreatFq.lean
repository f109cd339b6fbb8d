import Derived.Test.YtlmompdfombgeaaGreatFp
namespace Go.Proofs.YtlmompdfombgeaaGreat
open Go.RowKit Go.MapKept

theorem fl_kept_if {w w' : World} {g : Nat} {v : Value} {fs : List (Int × Int)} (h : Fl w v fs) (hk : Kept (fun k => k = g) w w') (hn : fs ≠ [] → v.ownBlock ≠ some g) : Fl w' v fs := by
  by_cases e : fs = []
  · subst e
    obtain ⟨h0, h1, h2⟩ := h
    refine ⟨h0, h1, ?_⟩
    rcases h2 with h2 | ⟨a, cap, rfl, h3, h5, h4⟩
    · exact .inl h2
    · exact .inr ⟨a, cap, rfl, h3, h5, fun j u hu => by simp at hu⟩
  · exact Rf.kept h hk (fun k hq e2 => hn e (by rw [hq, e2]))

set_option maxRecDepth 100000 in
set_option maxHeartbeats 3200000 in
theorem lfaults_any (B g cap : Nat) (wv : Value) (fs : List (Int × Int)) (w : World) (ho : w.ownsRow B 154 2 (.slice (some ⟨g, 0, none⟩) (fs.length + 2) cap) (fs.length + 2) ((fs ++ mks).flatMap fcs)) (h : Fl w wv fs) (hne : fs ≠ [] → wv.ownBlock ≠ some g) (hl : fs.length ≤ 300) :
    Calls Tryz.prog 112 #[.slice (some ⟨g, 0, none⟩) fs.length cap, wv] w fun x w' => x = .returned (.bool true) ∧ Kept (fun k => k = g) w w' := by
  obtain ⟨ao, cp, rfl, hc1, hc2⟩ := h.shape
  have hcap : fs.length + 2 ≤ cap := by
    rcases ho.2 with ⟨h, _⟩ | ⟨_, _, _, h, _, _, hc, _⟩
    · cases h
    · injection h with _ _ h; omega
  have sl := slice36 ⟨g, 0, none⟩ fs.length (fs.length + 2) cap hcap
  rw [show (((fs.length + 2 : Nat)) : Int) = (fs.length : Int) + 2 by omega] at sl
  have HO := hid ho
  have HF := hid h
  clear ho h
  go_enter Tryz.func112, Tryz.ntmps112
  go_wp2
  go_loopw [7, 8] (fun ok i wr => ∃ k : Nat, k ≤ fs.length + 2 ∧ i = .int .i64 k ∧ ok = .bool true ∧ wr.ownsRow B 154 2 (.slice (some ⟨g, 0, none⟩) (fs.length + 2) cap) (fs.length + 2) (wiped (fs ++ mks) k) ∧ Kept (fun k => k = g) w wr) (fun _ i _ => fs.length + 2 - (intOf i).toNat)
  case atStart => exact ⟨0, Nat.zero_le _, by go_num, by simp, by rw [wiped_zero]; exact HO.out, Kept.refl _ _⟩
  case round =>
    obtain ⟨k, hk, rfl, rfl, ho, hK⟩ := hrel
    by_cases hlt : k < fs.length + 2
    · have hlm : k < (fs ++ mks).length := by simp [mks]; omega
      have hgl : g < wr.heap.size := (ho.lt g rfl).2
      obtain ⟨A, hA⟩ : ∃ A, A = (fs ++ mks)[k] := ⟨_, rfl⟩
      have w0 := wiped_get (fs ++ mks) k hlm 0 (by omega)
      have w1 := wiped_get (fs ++ mks) k hlm 1 (by omega)
      rw [← hA] at w0 w1
      have y0 : wr.cell? ⟨g, k * 2, none⟩ = some (.int .i64 A.1) := by
        have := ho.cells (g := g) rfl (k * 2) (.int .i64 A.1) (by rw [← Nat.add_zero (k * 2), w0]; rfl)
        rwa [add_lit, Nat.zero_add] at this
      have y1 : wr.cell? ⟨g, k * 2 + 1, none⟩ = some (.int .i64 A.2) := by
        have := ho.cells (g := g) rfl (k * 2 + 1) (.int .i64 A.2) (by rw [w1]; rfl)
        rwa [add_lit, Nat.zero_add] at this
      have ff : ∀ o, wr.frozen? ⟨g, o, none⟩ = false := fun o => by
        obtain ⟨cs, hcs⟩ := owns_block ho g rfl
        exact free_of_block hcs
      have i2 : (k : Int) < (fs.length : Int) + 2 := by omega
      have HR := hid (And.intro ho (And.intro hK hlm))
      by_cases hin : k < fs.length
      · obtain ⟨b, off, cap', e, -, -, hcell⟩ := Rf.elem (f := fcs) (fun _ => rfl) (by omega) HF.out k hin
        injection e with e1 e2 e3
        subst e1 e3
        clear e2
        have hAk : A = fs[k] := by rw [hA, List.getElem_append_left hin]
        rw [← hAk] at hcell
        have hbg : b ≠ g := fun e => hne (List.ne_nil_of_length_pos (by omega)) (by simp [Value.ownBlock, e])
        have x0 : wr.cell? ⟨b, off + k * 2, none⟩ = some (.int .i64 A.1) := hK.cell (hcell 0 _ rfl) hbg
        have x1 : wr.cell? ⟨b, off + k * 2 + 1, none⟩ = some (.int .i64 A.2) := hK.cell (hcell 1 _ rfl) hbg
        have hbl : b < wr.heap.size := World.block_lt_of_cell? _ _ x0
        have i3 : (k : Int) < (fs.length : Int) := by omega
        obtain ⟨at', kd⟩ := A
        dsimp only at x0 x1 y0 y1
        clear hA w0 w1 ho hK hAk hcell hlm
        go_wp2
        go_region
        go_wp2
        go_roundw
        case rel =>
          obtain ⟨ho, hK, hlm⟩ := HR.out
          have e1 := own2_set (own2_set ho (k * 2) (.int .i64 1)) (k * 2 + 1) (.int .i64 1)
          rw [wiped_step _ _ hlm] at e1
          have k1 : Kept (fun k => k = g) w ((wr.setCell ⟨g, k * 2, none⟩ (.int .i64 1)).setCell ⟨g, k * 2 + 1, none⟩ (.int .i64 1)) := (hK.setCell (p := ⟨g, k * 2, none⟩) (fun _ => rfl) _).setCell (p := ⟨g, k * 2 + 1, none⟩) (fun _ => rfl) _
          exact ⟨k + 1, by omega, by go_num, by simp, (e1.alloc _).drew, (k1.alloc _).drew⟩
        case measure => simp [intOf]; omega
      · have hAk : A = (701, 702) := by
          rw [hA, List.getElem_append_right (by omega)]
          have : k - fs.length = 0 ∨ k - fs.length = 1 := by omega
          rcases this with h | h <;> simp [mks, h]
        subst hAk
        dsimp only at y0 y1
        have i3 : ¬ (k : Int) < (fs.length : Int) := by omega
        clear hA w0 w1 ho hK hlm
        go_wp2
        go_region
        go_wp2
        go_roundw
        case rel =>
          obtain ⟨ho, hK, hlm⟩ := HR.out
          have e1 := own2_set (own2_set ho (k * 2) (.int .i64 1)) (k * 2 + 1) (.int .i64 1)
          rw [wiped_step _ _ hlm] at e1
          have k1 : Kept (fun k => k = g) w ((wr.setCell ⟨g, k * 2, none⟩ (.int .i64 1)).setCell ⟨g, k * 2 + 1, none⟩ (.int .i64 1)) := (hK.setCell (p := ⟨g, k * 2, none⟩) (fun _ => rfl) _).setCell (p := ⟨g, k * 2 + 1, none⟩) (fun _ => rfl) _
          exact ⟨k + 1, by omega, by go_num, by simp, (e1.alloc _).drew, (k1.alloc _).drew⟩
        case measure => simp [intOf]; omega
    · have i2 : ¬ (k : Int) < (fs.length : Int) + 2 := by omega
      have HR := hid hK
      clear ho hK
      go_wp2
      go_ret
      exact ⟨rfl, HR.out⟩

theorem fl_marked {w : World} {B g cap : Nat} {fs : List (Int × Int)} (ho : w.ownsRow B 154 2 (.slice (some ⟨g, 0, none⟩) (fs.length + 2) cap) (fs.length + 2) ((fs ++ mks).flatMap fcs)) : Fl w (.slice (some ⟨g, 0, none⟩) fs.length cap) fs := by
  have hm : cap ≤ maxLen ∧ fs.length + 2 ≤ cap := by
    rcases ho.2 with ⟨h, _⟩ | ⟨_, _, _, h, _, _, hc, hm, _⟩
    · cases h
    · injection h with _ _ h; subst h; exact ⟨hm, hc⟩
  refine ⟨flat_len fcs 2 (fun _ => rfl) fs, fcs_one fs, .inr ⟨_, cap, rfl, by omega, hm.1, fun j u hu => ?_⟩⟩
  have hj : j < (fs.flatMap fcs).length := by
    rcases Nat.lt_or_ge j (fs.flatMap fcs).length with h | h
    · exact h
    · rw [List.getElem?_eq_none h] at hu; cases hu
  exact ho.cells (g := g) rfl j u (by rw [List.flatMap_append, List.getElem?_append_left hj]; exact hu)

set_option maxRecDepth 100000 in
set_option maxHeartbeats 3200000 in
theorem unplanned_any (B g h cap cap' : Nat) (sv rv : Value) (fs fr : List (Int × Int)) (w : World) (ho : w.ownsRow B 154 2 (.slice (some ⟨g, 0, none⟩) (fs.length + 2) cap) (fs.length + 2) ((fs ++ mks).flatMap fcs)) (ho2 : w.ownsRow B 154 2 (.slice (some ⟨h, 0, none⟩) (fr.length + 2) cap') (fr.length + 2) ((fr ++ mks).flatMap fcs)) (hgh : g ≠ h)
    (h1 : Fl w sv fs) (h2 : Fl w rv fr) (l1 : fs.length ≤ 300) (l2 : fr.length ≤ 300) (n1 : fs ≠ [] → sv.ownBlock ≠ some g) (n2 : fr ≠ [] → rv.ownBlock ≠ some g) (n3 : fr ≠ [] → rv.ownBlock ≠ some h) :
    Calls Tryz.prog 63 #[.agg #[.slice (some ⟨g, 0, none⟩) fs.length cap, .slice (some ⟨h, 0, none⟩) fr.length cap'], .agg #[sv, rv]] w fun x w' => x = .returned (.bool true) ∧ Kept (fun k => k = g ∨ k = h) w w' := by
  obtain ⟨ao, cp, rfl, hc1, hc2⟩ := h1.shape
  obtain ⟨ar, cr, rfl, hc3, hc4⟩ := h2.shape
  have hgl : g < w.heap.size := (ho.lt g rfl).2
  have hhl : h < w.heap.size := (ho2.lt h rfl).2
  have HX := hid (And.intro ho (And.intro ho2 (And.intro h1 h2)))
  clear ho ho2 h1 h2
  go_enter Tryz.func63, Tryz.ntmps63
  have hb0 : Below w.heap.size w ((w.alloc (.cells #[.slice (some ⟨g, 0, none⟩) fs.length cap, .slice (some ⟨h, 0, none⟩) fr.length cap'] 38)).alloc (.cells #[.slice ao fs.length cp, .slice ar fr.length cr] 38)) := ((Below.refl _ _).alloc (Nat.le_refl _) _).alloc (by simp) _
  have HB0 := hid hb0
  clear hb0
  go_wp2_with (
    go_at_call 112
    first
    | ((with_reducible show Calls _ _ #[.slice (some ⟨g, 0, none⟩) fs.length cap, .slice ao fs.length cp] _ _)
       refine (lfaults_any B g cap (.slice ao fs.length cp) fs _ (ownsRow_kept HX.out.1 (Kept.ofBelow HB0.out) (fun _ _ e => e)) (HX.out.2.2.1.below HB0.out) n1 l1).mono ?_
       rintro e w1 ⟨rfl, hk1⟩
       have hkw : Kept (fun k => k = g) w w1 := ((Kept.ofBelow HB0.out).mono (fun _ _ e => e.elim)).trans hk1 (fun _ _ e => e)
       have q0 : w1.cell? ⟨w.heap.size, 1, none⟩ = some (.slice (some ⟨h, 0, none⟩) fr.length cap') := hk1.cell (by simp [go_sem]) (by dsimp only; omega)
       have q1 : w1.cell? ⟨w.heap.size + 1, 1, none⟩ = some (.slice ar fr.length cr) := hk1.cell (by simp [go_sem]) (by dsimp only; omega)
       have HK := hid hkw
       clear hk1 hkw)
    | ((with_reducible show Calls _ _ #[.slice (some ⟨h, 0, none⟩) fr.length cap', .slice ar fr.length cr] _ _)
       refine (lfaults_any B h cap' (.slice ar fr.length cr) fr w1 (ownsRow_kept HX.out.2.1 HK.out (fun k hk e => (by simp only [Value.ownBlock, Option.some.injEq] at hk; omega))) (fl_kept_if HX.out.2.2.2 HK.out n2) n3 l2).mono ?_
       rintro e w2 ⟨rfl, hk2⟩
       have HK2 := hid hk2
       clear hk2))
  go_ret
  exact ⟨rfl, (HK.out.mono (S' := fun k => k = g ∨ k = h) (fun _ _ e => .inl e)).trans HK2.out (fun _ _ e => .inr e)⟩

end Go.Proofs.YtlmompdfombgeaaGreat
