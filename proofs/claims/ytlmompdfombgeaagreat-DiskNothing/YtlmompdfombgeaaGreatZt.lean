import Derived.Test.YtlmompdfombgeaaGreatZs
namespace Go.Proofs.YtlmompdfombgeaaGreat
open Go.RowKit Go.MapKept

section
variable {w : World} {r : Nat} {fs : List (Int × Int)} {cs : Int} {off : Bool}

set_option maxRecDepth 100000 in
set_option maxHeartbeats 1600000 in
theorem rcreate_z (nm : ByteArray) (h : ZR w r off cs fs) (hs : nm.size ≤ maxLen) (hl : fs.length ≤ 300) (h0 : 0 ≤ cs) (h1 : cs ≤ 1000000) :
    Calls Tryz.prog 52 #[.pointer (some ⟨r, 0, none⟩), .string nm] w fun x w' => x = .returned (.int .i64 (crP off nm cs fs).1) ∧ ZR w' r (crP off nm cs fs).2.1 (crP off nm cs fs).2.2 fs ∧ Kept (fun k => k = r) w w' := by
  have HK : Hid (Calls Tryz.prog 103 #[.pointer (some ⟨r, 0, none⟩), .string nm] w fun x w' => x = .returned (.tuple #[.int .i64 0, .int .i64 (kE off nm)]) ∧ Below w.heap.size w w') := by
    obtain ⟨sv, rv, hb, -, -⟩ := h
    exact hid (known_z (show RB w r sv rv cs off from hb) nm hs)
  have H := hid h
  clear h
  by_cases hk : kE off nm = 6
  · have hoff : off = false := by
      unfold kE at hk
      revert hk
      cases off <;> simp
    subst hoff
    have hcr : crP false nm cs fs = (if fe (fo fs (cs + 1)) = 0 then 9 else fe (fo fs (cs + 1)), decide (fo fs (cs + 1) = 1), cs + 1) := by unfold crP; rw [if_pos hk]
    rw [hcr]
    dsimp only
    rw [hk] at HK
    have hst : ∀ w1, Below w.heap.size w w1 → Calls Tryz.prog 104 #[.pointer (some ⟨r, 0, none⟩)] w1 fun x w' => x = .returned (.int .i64 (fe (fo fs (cs + 1)))) ∧ ZR w' r (decide (fo fs (cs + 1) = 1)) (cs + 1) fs ∧ Kept (fun k => k = r) w w' := by
      intro w1 hb
      refine (rstroke_z (H.out.below hb) hl h0 h1).mono ?_
      rintro e w2 ⟨rfl, hz, hk2⟩
      exact ⟨rfl, hz, ((Kept.ofBelow hb).mono (S' := fun k => k = r) (fun _ _ e => e.elim)).trans hk2 (fun _ _ e => e)⟩
    have HST := hid hst
    clear hst hcr hk
    by_cases he : fe (fo fs (cs + 1)) = 0
    · rw [if_pos he]
      rw [he] at HST
      go_enter Tryz.func52, Tryz.ntmps52
      go_wp2_with (first
        | (go_at_call 103; refine HK.out.mono ?_; rintro e w1 ⟨rfl, hb⟩; have HB := hid hb; clear hb)
        | (go_at_call 104
           refine (HST.out w1 HB.out).mono ?_
           rintro e w2 ⟨rfl, hz, hk2⟩
           obtain ⟨sv, rv, hb2, hf2, hn2⟩ := id hz
           have hb2 : RB w2 r sv rv (cs + 1) (decide (fo fs (cs + 1) = 1)) := hb2
           obtain ⟨c0, c1, c2, c3, c4, c5, c6, c7, c8, c9, c10⟩ := hb2.cells
           have H2 := hid (And.intro hz hk2)
           clear hz hk2 hb2 hf2 hn2 c6 c7 c8 c9 c10))
      go_quiet (fail)
      go_wp2
      go_ret
      exact ⟨rfl, H2.out.1.below (below_drewN (Below.refl _ _) _), H2.out.2.drewN _⟩
    · rw [if_neg he]
      obtain ⟨q, hq⟩ : ∃ q, q = fe (fo fs (cs + 1)) := ⟨_, rfl⟩
      rw [← hq] at he HST ⊢
      have hne : (q == 0) = false := by simpa using he
      clear hq he
      go_enter Tryz.func52, Tryz.ntmps52
      go_wp2_with (first
        | (go_at_call 103; refine HK.out.mono ?_; rintro e w1 ⟨rfl, hb⟩; have HB := hid hb; clear hb)
        | (go_at_call 104
           refine (HST.out w1 HB.out).mono ?_
           rintro e w2 ⟨rfl, hz⟩
           have H2 := hid hz
           clear hz))
      go_ret
      exact ⟨rfl, H2.out⟩
  · have hcr : crP off nm cs fs = (kE off nm, off, cs) := by unfold crP; rw [if_neg hk]
    rw [hcr]
    dsimp only
    have hne := kE_ne off nm
    obtain ⟨q, hq⟩ : ∃ q, q = kE off nm := ⟨_, rfl⟩
    rw [← hq] at hk hne HK ⊢
    have hne6 : (q == 6) = false := by simpa using hk
    clear hq hk hcr
    go_enter Tryz.func52, Tryz.ntmps52
    go_wp2_with (first
      | (go_at_call 103; refine HK.out.mono ?_; rintro e w1 ⟨rfl, hb⟩; have HB := hid hb; clear hb))
    go_ret
    exact ⟨rfl, H.out.below HB.out, (Kept.ofBelow HB.out).mono (fun _ _ e => e.elim)⟩

set_option maxRecDepth 100000 in
set_option maxHeartbeats 1600000 in
theorem rsyncNames_z (h : ZR w r off cs fs) (hl : fs.length ≤ 300) (h0 : 0 ≤ cs) (h1 : cs ≤ 1000000) :
    Calls Tryz.prog 56 #[.pointer (some ⟨r, 0, none⟩)] w fun x w' => x = .returned (.int .i64 (snP off cs fs).1) ∧ ZR w' r (snP off cs fs).2.1 (snP off cs fs).2.2 fs ∧ Kept (fun k => k = r) w w' := by
  obtain ⟨sv, rv, hb, hf, hn⟩ := id h
  replace hb : RB w r sv rv cs off := hb
  obtain ⟨c0, c1, c2, c3, c4, c5, c6, c7, c8, c9, c10⟩ := hb.cells
  cases off
  · have hsn : snP false cs fs = (fe (fo fs (cs + 1)), decide (fo fs (cs + 1) = 1), cs + 1) := by simp [snP]
    rw [hsn]
    dsimp only
    have HST := hid (rstroke_z h hl h0 h1)
    clear hsn h hb hf hn c0 c1 c2 c3 c4 c5 c6 c7 c8 c9
    by_cases he : fe (fo fs (cs + 1)) = 0
    · rw [he] at HST ⊢
      go_enter Tryz.func56, Tryz.ntmps56
      go_wp2_with (first
        | (go_at_call 104
           refine HST.out.mono ?_
           rintro e w2 ⟨rfl, hz, hk2⟩
           obtain ⟨sv, rv, hb2, hf2, hn2⟩ := hz
           have hb2 : RB w2 r sv rv (cs + 1) (decide (fo fs (cs + 1) = 1)) := hb2
           obtain ⟨d0, d1, d2, d3, d4, d5, d6, d7, d8, d9, d10⟩ := hb2.cells
           have df := hb2.free
           have H2 := hid (And.intro hb2 (And.intro hf2 (And.intro hn2 hk2)))
           clear hk2 hb2 hf2 hn2 d6 d7 d8 d9 d10)
        | (go_at_call 100; refine (now_z (w := w2) H2.out.1).mono ?_; rintro e w' ⟨rfl, n, rfl⟩)
        | (go_at_call 107
           refine (forget_z (w := ((w2.drewN n).setCell ⟨r, 4, none⟩ (.slice none 0 0)).setCell ⟨r, 5, none⟩ (.slice none 0 0)) (sv := sv) (rv := rv) (cs := cs + 1) (off := decide (fo fs (cs + 1) = 1)) (set_block (i := 5) (set_block (w := w2.drewN n) (i := 4) H2.out.1 _) _)).mono ?_
           rintro e w3 ⟨rfl, hb3, hk3⟩
           have H3 := hid (And.intro hb3 hk3)
           clear hb3 hk3))
      go_ret
      obtain ⟨hb2, hf2, hn2, hk2⟩ := H2.out
      obtain ⟨hb3, hk3⟩ := H3.out
      have K : Kept (fun k => k = r) w2 w3 := ((((Kept.refl (fun k => k = r) w2).drewN n).setCell (p := ⟨r, 4, none⟩) (fun _ => rfl) _).setCell (p := ⟨r, 5, none⟩) (fun _ => rfl) _).trans hk3 (fun _ _ e => e)
      exact ⟨rfl, ⟨sv, rv, hb3, Rf.kept hf2 K (fun k hk e => by have := hn2.1 k hk; omega), hn2⟩, hk2.trans K (fun _ _ e => e)⟩
    · obtain ⟨q, hq⟩ : ∃ q, q = fe (fo fs (cs + 1)) := ⟨_, rfl⟩
      rw [← hq] at he HST ⊢
      have hne : (q == 0) = false := by simpa using he
      clear hq he
      go_enter Tryz.func56, Tryz.ntmps56
      go_wp2_with (first
        | (go_at_call 104
           refine HST.out.mono ?_
           rintro e w2 ⟨rfl, hz⟩
           have H2 := hid hz
           clear hz))
      go_ret
      exact ⟨rfl, H2.out⟩
  · have hsn : snP true cs fs = (11, true, cs) := by simp [snP]
    rw [hsn]
    dsimp only
    have H := hid h
    clear h hb hf hn hsn
    go_enter Tryz.func56, Tryz.ntmps56
    go_wp2
    go_ret
    exact ⟨rfl, H.out, Kept.refl _ _⟩

set_option maxRecDepth 100000 in
set_option maxHeartbeats 1600000 in
theorem rplan_z (h : ZR w r off cs fs) (sv rv : Value) (gs gr : List (Int × Int)) (h1 : Fl w sv gs) (h2 : Fl w rv gr) (l1 : gs.length ≤ 300) (l2 : gr.length ≤ 300) :
    Calls Tryz.prog 62 #[.pointer (some ⟨r, 0, none⟩), .agg #[sv, rv]] w fun x w' => x = .returned (.tuple #[]) ∧ (∃ sv' rv', RB w' r sv' rv' 0 off ∧ Fl w' sv' gs ∧ (∀ k, sv'.ownBlock = some k → w.heap.size ≤ k) ∧ ∃ a n c, rv' = .slice a n c) ∧ Kept (fun k => k = r) w w' := by
  obtain ⟨ao, cp, rfl, hc1, hc2⟩ := h1.shape
  obtain ⟨ar, cr, rfl, hc3, hc4⟩ := h2.shape
  obtain ⟨sv0, rv0, hb, hf, hn⟩ := h
  replace hb : RB w r sv0 rv0 cs off := hb
  obtain ⟨c0, c1, c2, c3, c4, c5, c6, c7, c8, c9, c10⟩ := hb.cells
  have ff := hb.free
  have hrl := hp_lt hb
  have HX := hid (And.intro hb (And.intro h1 h2))
  clear hb hf hn h1 h2
  have hb0 : Below w.heap.size w (w.alloc (.cells #[.slice ao gs.length cp, .slice ar gr.length cr] 38)) := (Below.refl _ _).alloc (Nat.le_refl _) _
  have hc1 : Calls Tryz.prog 111 #[.slice ao gs.length cp] (w.alloc (.cells #[.slice ao gs.length cp, .slice ar gr.length cr] 38)).drew fun x w1 => ∃ a1 q1, x = .returned (.slice a1 gs.length q1) ∧ Fl w1 (.slice a1 gs.length q1) gs ∧ (∀ k, (Value.slice a1 gs.length q1).ownBlock = some k → w.heap.size ≤ k) ∧ Below w.heap.size w w1 ∧ w1.cell? ⟨w.heap.size, 1, none⟩ = some (.slice ar gr.length cr) := by
    refine (rfaults_any (.slice ao gs.length cp) gs (w.alloc (.cells #[.slice ao gs.length cp, .slice ar gr.length cr] 38)).drew (HX.out.2.1.below hb0.drew) (by omega)).mono ?_
    rintro e w1 ⟨v', rfl, hf1, hn1, hb1⟩
    obtain ⟨a1, q1, rfl, -, -⟩ := hf1.shape
    have hb1' : Below (w.heap.size + 1) (w.alloc (.cells #[.slice ao gs.length cp, .slice ar gr.length cr] 38)) w1 := by
      have e : (w.alloc (.cells #[.slice ao gs.length cp, .slice ar gr.length cr] 38)).drew.heap.size = w.heap.size + 1 := by simp
      rw [e] at hb1
      exact ⟨hb1.os, hb1.tape, hb1.output, hb1.size, hb1.block⟩
    refine ⟨a1, q1, rfl, hf1, fun k hk => ?_, hb0.trans (hb1'.mono (by omega)), (hb1'.cell (by simp)).trans (by simp [go_sem])⟩
    have := hn1 k hk
    simp at this
    omega
  have HC1 := hid hc1
  clear hc1
  go_enter Tryz.func62, Tryz.ntmps62
  go_wp2_with fail
  go_region_with (
    go_at_call 111
    first
    | ((with_reducible show Calls _ _ #[.slice ao gs.length cp] _ _)
       refine HC1.out.mono ?_
       rintro e w1 ⟨a1, q1, rfl, hf1, hn1, hb1, p1⟩
       have hd1 := (show RB w1 r sv0 rv0 cs off from hp_below HX.out.1 hb1 (hp_lt HX.out.1))
       have H1 := hid (And.intro hd1 (And.intro hf1 (And.intro hn1 hb1)))
       clear hd1 hf1 hn1 hb1)
    | ((with_reducible show Calls _ _ #[.slice ar gr.length cr] _ _)
       refine (rfaults_any (.slice ar gr.length cr) gr w1 (HX.out.2.2.below H1.out.2.2.2) (by omega)).mono ?_
       rintro e w2 ⟨v', rfl, hf2, hn2, hb2⟩
       obtain ⟨a2, q2, rfl, -, -⟩ := hf2.shape
       have hd2 := (show RB w2 r sv0 rv0 cs off from hp_below H1.out.1 hb2 (hp_lt H1.out.1))
       obtain ⟨-, -, -, -, -, -, d6, d7, d8, d9, d10⟩ := hd2.cells
       have df := hd2.free
       have H2 := hid (And.intro hd2 (And.intro (H1.out.2.1.below hb2) (And.intro H1.out.2.2.1 (H1.out.2.2.2.trans (hb2.mono H1.out.2.2.2.size)))))
       clear hd2 hf2 hn2 hb2))
  all_goals
    go_wp2
    go_end0
    obtain ⟨hd2, hf2, hn2, hb2⟩ := H2.out
    have K : Kept (fun k => k = r) w ((((w2.setCell ⟨r, 6, none⟩ (.slice a1 gs.length q1)).setCell ⟨r, 7, none⟩ (.slice a2 gr.length q2)).setCell ⟨r, 8, none⟩ (.int .i64 0)).setCell ⟨r, 9, none⟩ (.int .i64 0)) := ((((((Kept.ofBelow hb2).mono (S' := fun k => k = r) (fun _ _ e => e.elim)).setCell (p := ⟨r, 6, none⟩) (fun _ => rfl) _).setCell (p := ⟨r, 7, none⟩) (fun _ => rfl) _).setCell (p := ⟨r, 8, none⟩) (fun _ => rfl) _).setCell (p := ⟨r, 9, none⟩) (fun _ => rfl) _)
    have K2 : Kept (fun k => k = r) w2 ((((w2.setCell ⟨r, 6, none⟩ (.slice a1 gs.length q1)).setCell ⟨r, 7, none⟩ (.slice a2 gr.length q2)).setCell ⟨r, 8, none⟩ (.int .i64 0)).setCell ⟨r, 9, none⟩ (.int .i64 0)) := (((((Kept.refl (fun k => k = r) w2).setCell (p := ⟨r, 6, none⟩) (fun _ => rfl) _).setCell (p := ⟨r, 7, none⟩) (fun _ => rfl) _).setCell (p := ⟨r, 8, none⟩) (fun _ => rfl) _).setCell (p := ⟨r, 9, none⟩) (fun _ => rfl) _)
    have hne : ∀ k, (Value.slice a1 gs.length q1).ownBlock = some k → r < k := fun k e => by have := hn2 k e; omega
    exact ⟨rfl, ⟨_, _, set_block (i := 9) (set_block (i := 8) (set_block (i := 7) (set_block (i := 6) hd2 _) _) _) _, Rf.kept hf2 K2 (fun k hk e => by have := hne k hk; omega), hn2, _, _, _, rfl⟩, K⟩

set_option maxRecDepth 100000 in
set_option maxHeartbeats 1600000 in
theorem rhand_z (nm : ByteArray) (ao : Option Addr) (n c : Nat) (h : ZR w r off cs fs) (hs : nm.size ≤ maxLen) :
    Calls Tryz.prog 67 #[.pointer (some ⟨r, 0, none⟩), .string nm, .slice ao n c] w fun x w' => x = .returned (.int .i64 (haE nm)) ∧ Below w.heap.size w w' := by
  obtain ⟨sv0, rv0, hb, hf, hn, a0, n0, q0, rfl⟩ := h
  obtain ⟨a1, q1, rfl, -, -⟩ := hf.shape
  replace hb : RB w r (.slice a1 fs.length q1) (.slice a0 n0 q0) cs off := hb
  obtain ⟨c0, c1, c2, c3, c4, c5, c6, c7, c8, c9, c10⟩ := hb.cells
  have hrl := hp_lt hb
  have HX := hid (And.intro hb hf)
  clear hb hf hn
  cases hok : nmOK nm
  · have e : haE nm = 5 := by simp [haE, hok]
    rw [e]
    clear e
    go_enter Tryz.func67, Tryz.ntmps67
    go_wp2_with (go_at_call 108; refine (risName_any nm _ hs).mono ?_; rw [hok]; rintro e w' ⟨rfl, rfl⟩)
    go_ret
    exact ⟨rfl, by first | exact Below.refl _ _ | exact (Below.refl _ _).alloc (Nat.le_refl _) _⟩
  · have e : haE nm = 9 := by simp [haE, hok]
    rw [e]
    clear e
    go_enter Tryz.func67, Tryz.ntmps67
    go_wp2_with (first
      | (go_at_call 108; refine (risName_any nm _ hs).mono ?_; rw [hok]; rintro e w' ⟨rfl, e1⟩; rw [e1]; clear e1 w')
      | (go_at_call 100; refine (now_z (sv := .slice a1 fs.length q1) (rv := .slice a0 n0 q0) (cs := cs) (off := off) (show RB _ r _ _ cs off from hp_alloc HX.out.1 _)).mono ?_; rintro e w' ⟨rfl, m, rfl⟩)
      | (go_at_call 115; refine (without_nil nm _).mono ?_; rintro e w' ⟨rfl, e1⟩; rw [e1]; clear e1 w')
      | (go_at_call 107
         refine (forget_z (r := w.heap.size) (sv := .slice a1 fs.length q1) (rv := .slice a0 n0 q0) (cs := cs) (off := off) (by first | exact hp_new _ _ | exact set_block (i := 5) (set_block (i := 4) (hp_new _ _) _) _)).mono ?_
         rintro e w3 ⟨rfl, hb3, hk3⟩
         obtain ⟨-, t1, -, t3, -⟩ := hb3.cells
         have H3 := hid hk3
         clear hb3 hk3))
    go_ret
    refine ⟨rfl, ?_⟩
    refine (Kept.trans (S := fun k => k = w.heap.size) ?_ H3.out (fun _ _ e => e)).below (Nat.le_refl _) (fun k hk e => by omega)
    exact (((((Kept.refl (fun k => k = w.heap.size) w).alloc _).drewN m).setCell (p := ⟨w.heap.size, 4, none⟩) (fun _ => rfl) _).setCell (p := ⟨w.heap.size, 5, none⟩) (fun _ => rfl) _)

end
end Go.Proofs.YtlmompdfombgeaaGreat
