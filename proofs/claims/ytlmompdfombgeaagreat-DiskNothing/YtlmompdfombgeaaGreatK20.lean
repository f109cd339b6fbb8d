import Derived.Test.YtlmompdfombgeaaGreatK19
import Derived.Test.YtlmompdfombgeaaGreatK17
namespace Go.Proofs.YtlmompdfombgeaaGreat
open Go.RowKit Go.MapKept

section
variable {w : World} {r : Nat} {fs : List (Int × Int)} {cs : Int} {off : Bool}

set_option maxRecDepth 100000 in
set_option maxHeartbeats 1600000 in
theorem rcreate_z (nm : ByteArray) (h : ZR w r off cs fs) (hs : nm.size ≤ maxLen) (hl : fs.length ≤ 300) (h0 : 0 ≤ cs) (h1 : cs ≤ 1000000) :
    Calls Tryz.prog 52 #[.pointer (some ⟨r, 0, none⟩), .string nm] w fun x w' => x = .returned (.int .i64 (crP off nm cs fs).1) ∧ ZR w' r (crP off nm cs fs).2.1 (crP off nm cs fs).2.2 fs ∧ Kept (fun k => k = r) w w' := by
  have HK : Hid (Calls Tryz.prog 103 #[.pointer (some ⟨r, 0, none⟩), .string nm] w fun x w' => x = .returned (.tuple #[.int .i64 0, .int .i64 (kE off nm)]) ∧ Below w.heap.size w w') := by
    obtain ⟨sv, rv, hb, -, -⟩ := h
    exact hid (known_z (show RB w r sv rv cs off from hb) nm hs)
  have H := hid h
  clear h
  by_cases hk : kE off nm = 6
  · have hoff : off = false := by
      unfold kE at hk
      revert hk
      cases off <;> simp
    subst hoff
    have hcr : crP false nm cs fs = (if fe (fo fs (cs + 1)) = 0 then 9 else fe (fo fs (cs + 1)), decide (fo fs (cs + 1) = 1), cs + 1) := by unfold crP; rw [if_pos hk]
    rw [hcr]
    dsimp only
    rw [hk] at HK
    have hst : ∀ w1, Below w.heap.size w w1 → Calls Tryz.prog 104 #[.pointer (some ⟨r, 0, none⟩)] w1 fun x w' => x = .returned (.int .i64 (fe (fo fs (cs + 1)))) ∧ ZR w' r (decide (fo fs (cs + 1) = 1)) (cs + 1) fs ∧ Kept (fun k => k = r) w w' := by
      intro w1 hb
      refine (rstroke_z (H.out.below hb) hl h0 h1).mono ?_
      rintro e w2 ⟨rfl, hz, hk2⟩
      exact ⟨rfl, hz, ((Kept.ofBelow hb).mono (S' := fun k => k = r) (fun _ _ e => e.elim)).trans hk2 (fun _ _ e => e)⟩
    have HST := hid hst
    clear hst hcr hk
    by_cases he : fe (fo fs (cs + 1)) = 0
    · rw [if_pos he]
      rw [he] at HST
      go_enter Tryz.func52, Tryz.ntmps52
      go_wp2_with (first
        | (go_at_call 103; refine HK.out.mono ?_; rintro e w1 ⟨rfl, hb⟩; have HB := hid hb; clear hb)
        | (go_at_call 104
           refine (HST.out w1 HB.out).mono ?_
           rintro e w2 ⟨rfl, hz, hk2⟩
           obtain ⟨sv, rv, hb2, hf2, hn2⟩ := id hz
           have hb2 : RB w2 r sv rv (cs + 1) (decide (fo fs (cs + 1) = 1)) := hb2
           obtain ⟨c0, c1, c2, c3, c4, c5, c6, c7, c8, c9, c10⟩ := hb2.cells
           have H2 := hid (And.intro hz hk2)
           clear hz hk2 hb2 hf2 hn2 c6 c7 c8 c9 c10))
      go_quiet (fail)
      go_wp2
      go_ret
      exact ⟨rfl, H2.out.1.below (below_drewN (Below.refl _ _) _), H2.out.2.drewN _⟩
    · rw [if_neg he]
      obtain ⟨q, hq⟩ : ∃ q, q = fe (fo fs (cs + 1)) := ⟨_, rfl⟩
      rw [← hq] at he HST ⊢
      have hne : (q == 0) = false := by simpa using he
      clear hq he
      go_enter Tryz.func52, Tryz.ntmps52
      go_wp2_with (first
        | (go_at_call 103; refine HK.out.mono ?_; rintro e w1 ⟨rfl, hb⟩; have HB := hid hb; clear hb)
        | (go_at_call 104
           refine (HST.out w1 HB.out).mono ?_
           rintro e w2 ⟨rfl, hz⟩
           have H2 := hid hz
           clear hz))
      go_ret
      exact ⟨rfl, H2.out⟩
  · have hcr : crP off nm cs fs = (kE off nm, off, cs) := by unfold crP; rw [if_neg hk]
    rw [hcr]
    dsimp only
    have hne := kE_ne off nm
    obtain ⟨q, hq⟩ : ∃ q, q = kE off nm := ⟨_, rfl⟩
    rw [← hq] at hk hne HK ⊢
    have hne6 : (q == 6) = false := by simpa using hk
    clear hq hk hcr
    go_enter Tryz.func52, Tryz.ntmps52
    go_wp2_with (first
      | (go_at_call 103; refine HK.out.mono ?_; rintro e w1 ⟨rfl, hb⟩; have HB := hid hb; clear hb))
    go_ret
    exact ⟨rfl, H.out.below HB.out, (Kept.ofBelow HB.out).mono (fun _ _ e => e.elim)⟩

set_option maxRecDepth 100000 in
set_option maxHeartbeats 1600000 in
theorem rsyncNames_z (h : ZR w r off cs fs) (hl : fs.length ≤ 300) (h0 : 0 ≤ cs) (h1 : cs ≤ 1000000) :
    Calls Tryz.prog 56 #[.pointer (some ⟨r, 0, none⟩)] w fun x w' => x = .returned (.int .i64 (snP off cs fs).1) ∧ ZR w' r (snP off cs fs).2.1 (snP off cs fs).2.2 fs ∧ Kept (fun k => k = r) w w' := by
  obtain ⟨sv, rv, hb, hf, hn⟩ := id h
  replace hb : RB w r sv rv cs off := hb
  obtain ⟨c0, c1, c2, c3, c4, c5, c6, c7, c8, c9, c10⟩ := hb.cells
  cases off
  · have hsn : snP false cs fs = (fe (fo fs (cs + 1)), decide (fo fs (cs + 1) = 1), cs + 1) := by simp [snP]
    rw [hsn]
    dsimp only
    have HST := hid (rstroke_z h hl h0 h1)
    clear hsn h hb hf hn c0 c1 c2 c3 c4 c5 c6 c7 c8 c9
    by_cases he : fe (fo fs (cs + 1)) = 0
    · rw [he] at HST ⊢
      go_enter Tryz.func56, Tryz.ntmps56
      go_wp2_with (first
        | (go_at_call 104
           refine HST.out.mono ?_
           rintro e w2 ⟨rfl, hz, hk2⟩
           obtain ⟨sv, rv, hb2, hf2, hn2⟩ := hz
           have hb2 : RB w2 r sv rv (cs + 1) (decide (fo fs (cs + 1) = 1)) := hb2
           obtain ⟨d0, d1, d2, d3, d4, d5, d6, d7, d8, d9, d10⟩ := hb2.cells
           have df := hb2.free
           have H2 := hid (And.intro hb2 (And.intro hf2 (And.intro hn2 hk2)))
           clear hk2 hb2 hf2 hn2 d6 d7 d8 d9 d10)
        | (go_at_call 100; refine (now_z (w := w2) H2.out.1).mono ?_; rintro e w' ⟨rfl, n, rfl⟩)
        | (go_at_call 107
           refine (forget_z (w := ((w2.drewN n).setCell ⟨r, 4, none⟩ (.slice none 0 0)).setCell ⟨r, 5, none⟩ (.slice none 0 0)) (sv := sv) (rv := rv) (cs := cs + 1) (off := decide (fo fs (cs + 1) = 1)) (set_block (i := 5) (set_block (w := w2.drewN n) (i := 4) H2.out.1 _) _)).mono ?_
           rintro e w3 ⟨rfl, hb3, hk3⟩
           have H3 := hid (And.intro hb3 hk3)
           clear hb3 hk3))
      go_ret
      obtain ⟨hb2, hf2, hn2, hk2⟩ := H2.out
      obtain ⟨hb3, hk3⟩ := H3.out
      have K : Kept (fun k => k = r) w2 w3 := ((((Kept.refl (fun k => k = r) w2).drewN n).setCell (p := ⟨r, 4, none⟩) (fun _ => rfl) _).setCell (p := ⟨r, 5, none⟩) (fun _ => rfl) _).trans hk3 (fun _ _ e => e)
      exact ⟨rfl, ⟨sv, rv, hb3, Rf.kept hf2 K (fun k hk e => by have := hn2.1 k hk; omega), hn2⟩, hk2.trans K (fun _ _ e => e)⟩
    · obtain ⟨q, hq⟩ : ∃ q, q = fe (fo fs (cs + 1)) := ⟨_, rfl⟩
      rw [← hq] at he HST ⊢
      have hne : (q == 0) = false := by simpa using he
      clear hq he
      go_enter Tryz.func56, Tryz.ntmps56
      go_wp2_with (first
        | (go_at_call 104
           refine HST.out.mono ?_
           rintro e w2 ⟨rfl, hz⟩
           have H2 := hid hz
           clear hz))
      go_ret
      exact ⟨rfl, H2.out⟩
  · have hsn : snP true cs fs = (11, true, cs) := by simp [snP]
    rw [hsn]
    dsimp only
    have H := hid h
    clear h hb hf hn hsn
    go_enter Tryz.func56, Tryz.ntmps56
    go_wp2
    go_ret
    exact ⟨rfl, H.out, Kept.refl _ _⟩

set_option maxRecDepth 100000 in
set_option maxHeartbeats 1600000 in
theorem rplan_z (h : ZR w r off cs fs) (sv rv : Value) (gs gr : List (Int × Int)) (h1 : Fl w sv gs) (h2 : Fl w rv gr) (l1 : gs.length ≤ 300) (l2 : gr.length ≤ 300) :
    Calls Tryz.prog 62 #[.pointer (some ⟨r, 0, none⟩), .agg #[sv, rv]] w fun x w' => x = .returned (.tuple #[]) ∧ (∃ sv' rv', RB w' r sv' rv' 0 off ∧ Fl w' sv' gs ∧ (∀ k, sv'.ownBlock = some k → w.heap.size ≤ k) ∧ ∃ a n c, rv' = .slice a n c) ∧ Kept (fun k => k = r) w w' := by
  obtain ⟨ao, cp, rfl, hc1, hc2⟩ := h1.shape
  obtain ⟨ar, cr, rfl, hc3, hc4⟩ := h2.shape
  obtain ⟨sv0, rv0, hb, hf, hn⟩ := h
  replace hb : RB w r sv0 rv0 cs off := hb
  obtain ⟨c0, c1, c2, c3, c4, c5, c6, c7, c8, c9, c10⟩ := hb.cells
  have ff := hb.free
  have hrl := hp_lt hb
  have HX := hid (And.intro hb (And.intro h1 h2))
  clear hb hf hn h1 h2
  have hb0 : Below w.heap.size w (w.alloc (.cells #[.slice ao gs.length cp, .slice ar gr.length cr] 38)) := (Below.refl _ _).alloc (Nat.le_refl _) _
  have hc1 : Calls Tryz.prog 111 #[.slice ao gs.length cp] (w.alloc (.cells #[.slice ao gs.length cp, .slice ar gr.length cr] 38)).drew fun x w1 => ∃ a1 q1, x = .returned (.slice a1 gs.length q1) ∧ Fl w1 (.slice a1 gs.length q1) gs ∧ (∀ k, (Value.slice a1 gs.length q1).ownBlock = some k → w.heap.size ≤ k) ∧ Below w.heap.size w w1 ∧ w1.cell? ⟨w.heap.size, 1, none⟩ = some (.slice ar gr.length cr) := by
    refine (rfaults_any (.slice ao gs.length cp) gs (w.alloc (.cells #[.slice ao gs.length cp, .slice ar gr.length cr] 38)).drew (HX.out.2.1.below hb0.drew) (by omega)).mono ?_
    rintro e w1 ⟨v', rfl, hf1, hn1, hb1⟩
    obtain ⟨a1, q1, rfl, -, -⟩ := hf1.shape
    have hb1' : Below (w.heap.size + 1) (w.alloc (.cells #[.slice ao gs.length cp, .slice ar gr.length cr] 38)) w1 := by
      have e : (w.alloc (.cells #[.slice ao gs.length cp, .slice ar gr.length cr] 38)).drew.heap.size = w.heap.size + 1 := by simp
      rw [e] at hb1
      exact ⟨hb1.os, hb1.tape, hb1.output, hb1.size, hb1.block⟩
    refine ⟨a1, q1, rfl, hf1, fun k hk => ?_, hb0.trans (hb1'.mono (by omega)), (hb1'.cell (by simp)).trans (by simp [go_sem])⟩
    have := hn1 k hk
    simp at this
    omega
  have HC1 := hid hc1
  clear hc1
  go_enter Tryz.func62, Tryz.ntmps62
  go_wp2_with fail
  go_region_with (
    go_at_call 111
    first
    | ((with_reducible show Calls _ _ #[.slice ao gs.length cp] _ _)
       refine HC1.out.mono ?_
       rintro e w1 ⟨a1, q1, rfl, hf1, hn1, hb1, p1⟩
       have hd1 := (show RB w1 r sv0 rv0 cs off from hp_below HX.out.1 hb1 (hp_lt HX.out.1))
       have H1 := hid (And.intro hd1 (And.intro hf1 (And.intro hn1 hb1)))
       clear hd1 hf1 hn1 hb1)
    | ((with_reducible show Calls _ _ #[.slice ar gr.length cr] _ _)
       refine (rfaults_any (.slice ar gr.length cr) gr w1 (HX.out.2.2.below H1.out.2.2.2) (by omega)).mono ?_
       rintro e w2 ⟨v', rfl, hf2, hn2, hb2⟩
       obtain ⟨a2, q2, rfl, -, -⟩ := hf2.shape
       have hd2 := (show RB w2 r sv0 rv0 cs off from hp_below H1.out.1 hb2 (hp_lt H1.out.1))
       obtain ⟨-, -, -, -, -, -, d6, d7, d8, d9, d10⟩ := hd2.cells
       have df := hd2.free
       have H2 := hid (And.intro hd2 (And.intro (H1.out.2.1.below hb2) (And.intro H1.out.2.2.1 (H1.out.2.2.2.trans (hb2.mono H1.out.2.2.2.size)))))
       clear hd2 hf2 hn2 hb2))
  all_goals
    go_wp2
    go_end0
    obtain ⟨hd2, hf2, hn2, hb2⟩ := H2.out
    have K : Kept (fun k => k = r) w ((((w2.setCell ⟨r, 6, none⟩ (.slice a1 gs.length q1)).setCell ⟨r, 7, none⟩ (.slice a2 gr.length q2)).setCell ⟨r, 8, none⟩ (.int .i64 0)).setCell ⟨r, 9, none⟩ (.int .i64 0)) := ((((((Kept.ofBelow hb2).mono (S' := fun k => k = r) (fun _ _ e => e.elim)).setCell (p := ⟨r, 6, none⟩) (fun _ => rfl) _).setCell (p := ⟨r, 7, none⟩) (fun _ => rfl) _).setCell (p := ⟨r, 8, none⟩) (fun _ => rfl) _).setCell (p := ⟨r, 9, none⟩) (fun _ => rfl) _)
    have K2 : Kept (fun k => k = r) w2 ((((w2.setCell ⟨r, 6, none⟩ (.slice a1 gs.length q1)).setCell ⟨r, 7, none⟩ (.slice a2 gr.length q2)).setCell ⟨r, 8, none⟩ (.int .i64 0)).setCell ⟨r, 9, none⟩ (.int .i64 0)) := (((((Kept.refl (fun k => k = r) w2).setCell (p := ⟨r, 6, none⟩) (fun _ => rfl) _).setCell (p := ⟨r, 7, none⟩) (fun _ => rfl) _).setCell (p := ⟨r, 8, none⟩) (fun _ => rfl) _).setCell (p := ⟨r, 9, none⟩) (fun _ => rfl) _)
    have hne : ∀ k, (Value.slice a1 gs.length q1).ownBlock = some k → r < k := fun k e => by have := hn2 k e; omega
    exact ⟨rfl, ⟨_, _, set_block (i := 9) (set_block (i := 8) (set_block (i := 7) (set_block (i := 6) hd2 _) _) _) _, Rf.kept hf2 K2 (fun k hk e => by have := hne k hk; omega), hn2, _, _, _, rfl⟩, K⟩

set_option maxRecDepth 100000 in
set_option maxHeartbeats 1600000 in
theorem rhand_z (nm : ByteArray) (ao : Option Addr) (n c : Nat) (h : ZR w r off cs fs) (hs : nm.size ≤ maxLen) :
    Calls Tryz.prog 67 #[.pointer (some ⟨r, 0, none⟩), .string nm, .slice ao n c] w fun x w' => x = .returned (.int .i64 (haE nm)) ∧ Below w.heap.size w w' := by
  obtain ⟨sv0, rv0, hb, hf, hn, a0, n0, q0, rfl⟩ := h
  obtain ⟨a1, q1, rfl, -, -⟩ := hf.shape
  replace hb : RB w r (.slice a1 fs.length q1) (.slice a0 n0 q0) cs off := hb
  obtain ⟨c0, c1, c2, c3, c4, c5, c6, c7, c8, c9, c10⟩ := hb.cells
  have hrl := hp_lt hb
  have HX := hid (And.intro hb hf)
  clear hb hf hn
  cases hok : nmOK nm
  · have e : haE nm = 5 := by simp [haE, hok]
    rw [e]
    clear e
    go_enter Tryz.func67, Tryz.ntmps67
    go_wp2_with (go_at_call 108; refine (risName_any nm _ hs).mono ?_; rw [hok]; rintro e w' ⟨rfl, rfl⟩)
    go_ret
    exact ⟨rfl, by first | exact Below.refl _ _ | exact (Below.refl _ _).alloc (Nat.le_refl _) _⟩
  · have e : haE nm = 9 := by simp [haE, hok]
    rw [e]
    clear e
    go_enter Tryz.func67, Tryz.ntmps67
    go_wp2_with (first
      | (go_at_call 108; refine (risName_any nm _ hs).mono ?_; rw [hok]; rintro e w' ⟨rfl, e1⟩; rw [e1]; clear e1 w')
      | (go_at_call 100; refine (now_z (sv := .slice a1 fs.length q1) (rv := .slice a0 n0 q0) (cs := cs) (off := off) (show RB _ r _ _ cs off from hp_alloc HX.out.1 _)).mono ?_; rintro e w' ⟨rfl, m, rfl⟩)
      | (go_at_call 115; refine (without_nil nm _).mono ?_; rintro e w' ⟨rfl, e1⟩; rw [e1]; clear e1 w')
      | (go_at_call 107
         refine (forget_z (r := w.heap.size) (sv := .slice a1 fs.length q1) (rv := .slice a0 n0 q0) (cs := cs) (off := off) (by first | exact hp_new _ _ | exact set_block (i := 5) (set_block (i := 4) (hp_new _ _) _) _)).mono ?_
         rintro e w3 ⟨rfl, hb3, hk3⟩
         obtain ⟨-, t1, -, t3, -⟩ := hb3.cells
         have H3 := hid hk3
         clear hb3 hk3))
    go_ret
    refine ⟨rfl, ?_⟩
    refine (Kept.trans (S := fun k => k = w.heap.size) ?_ H3.out (fun _ _ e => e)).below (Nat.le_refl _) (fun k hk e => by omega)
    exact (((((Kept.refl (fun k => k = w.heap.size) w).alloc _).drewN m).setCell (p := ⟨w.heap.size, 4, none⟩) (fun _ => rfl) _).setCell (p := ⟨w.heap.size, 5, none⟩) (fun _ => rfl) _)

end
end Go.Proofs.YtlmompdfombgeaaGreat

namespace Go.Proofs.YtlmompdfombgeaaGreat
open Go.RowKit Go.MapKept

section
variable {w : World} {r : Nat} {fs : List (Int × Int)} {cs : Int} {off : Bool}

set_option maxRecDepth 100000 in
set_option maxHeartbeats 3200000 in
theorem rcrash_z (pn : Int) (hpn : I64 pn) (ao : Option Addr) (n c : Nat) (h : ZR w r off cs fs) :
    Calls Tryz.prog 65 #[.pointer (some ⟨r, 0, none⟩), .agg #[.int .i64 pn, .slice ao n c]] w fun x w' => x = .returned (.slice none 0 0) ∧ ZR w' r false 0 [] ∧ Kept (fun k => k = r) w w' := by
  obtain ⟨sv, rv, hb, hf, hn, a0, n0, q0, rfl⟩ := h
  obtain ⟨a1, q1, rfl, -, -⟩ := hf.shape
  replace hb : RB w r (.slice a1 fs.length q1) (.slice a0 n0 q0) cs off := hb
  obtain ⟨c0, c1, c2, c3, c4, c5, c6, c7, c8, c9, c10⟩ := hb.cells
  have ff := hb.free
  have hrl := hp_lt hb
  have H := hid hb
  clear hb hf hn
  have c4a : (w.alloc (.cells #[.int .i64 pn, .slice ao n c] 41)).drew.cell? ⟨r, 4, none⟩ = some (.slice none 0 0) := by
    show (w.alloc (.cells #[.int .i64 pn, .slice ao n c] 41)).cell? ⟨r, 4, none⟩ = some (.slice none 0 0)
    rw [World.cell?_alloc_past _ _ _ hrl]; exact c4
  have HN := hid (names_zero r (w.alloc (.cells #[.int .i64 pn, .slice ao n c] 41)).drew c4a)
  clear c4a
  go_enter Tryz.func65, Tryz.ntmps65
  go_wp2_with fail
  go_region_with (first
    | (go_at_call 114; refine (Round_of1 pn _ hpn).mono ?_; rintro e w' ⟨rfl, e1⟩; rw [e1]; clear e1 w')
    | (go_at_call 113; refine HN.out.mono ?_; rintro e w' ⟨rfl, e1⟩; rw [e1]; clear e1 w'))
  all_goals
    have hb1 : RB ((w.setCell ⟨r, 4, none⟩ (.slice none 0 0)).alloc (.cells #[.int .i64 pn, .slice ao n c] 41)).drew r (.slice a1 fs.length q1) (.slice a0 n0 q0) cs off := hp_alloc (set_block (i := 4) H.out _) _
    have hk1 : Kept (fun k => k = r) w ((w.setCell ⟨r, 4, none⟩ (.slice none 0 0)).alloc (.cells #[.int .i64 pn, .slice ao n c] 41)).drew := (((Kept.refl (fun k => k = r) w).setCell (p := ⟨r, 4, none⟩) (fun _ => rfl) _).alloc _).drew
    obtain ⟨W, hW⟩ : ∃ W, W = ((w.setCell ⟨r, 4, none⟩ (.slice none 0 0)).alloc (.cells #[.int .i64 pn, .slice ao n c] 41)).drew := ⟨_, rfl⟩
    rw [← hW] at hb1 hk1 ⊢
    clear hW HN c0 c1 c2 c3 c4 c5 c6 c7 c8 c9 c10 ff H
    obtain ⟨c0, c1, c2, c3, c4, c5, c6, c7, c8, c9, c10⟩ := hb1.cells
    have ff := hb1.free
    have H1 := hid (And.intro hb1 hk1)
    clear hb1 hk1
    go_wp2
    refine wp_loop_rounds 1 ?_
    rw [rounds_succ]
    go_wp2_with (first
      | (go_at_call 107
         (with_reducible show Calls _ _ _ ((W.setCell ⟨r, 5, none⟩ (.slice none 0 0)).setCell ⟨r, 3, none⟩ (.slice none 0 0)) _)
         refine (forget_z (w := (W.setCell ⟨r, 5, none⟩ (.slice none 0 0)).setCell ⟨r, 3, none⟩ (.slice none 0 0)) (sv := .slice a1 fs.length q1) (rv := .slice a0 n0 q0) (cs := cs) (off := off) (set_block (i := 3) (set_block (i := 5) H1.out.1 _) _)).mono ?_
         rintro e w2 ⟨rfl, hb2, hk2⟩
         obtain ⟨d0, d1, d2, d3, d4, d5, d6, d7, d8, d9, d10⟩ := hb2.cells
         have df := hb2.free
         have H2 := hid (And.intro hb2 hk2)
         clear hb2 hk2 c0 c1 c2 c3 c4 c5 c6 c7 c8 c9 c10 ff)
      | (go_at_call 102; refine (rfiles_zero r _ _).mono ?_; rintro e w' ⟨rfl, e1⟩; rw [e1]; clear e1 w')
      | (go_at_call 107
         (with_reducible show Calls _ _ _ (w2.setCell ⟨r, 3, none⟩ (.slice none 0 0)) _)
         refine (forget_z (w := w2.setCell ⟨r, 3, none⟩ (.slice none 0 0)) (sv := .slice a1 fs.length q1) (rv := .slice a0 n0 q0) (cs := cs) (off := off) (set_block (i := 3) H2.out.1 _)).mono ?_
         rintro e w3 ⟨rfl, hb3, hk3⟩
         obtain ⟨e0, e1, e2, e3, e4, e5, e6, e7, e8, e9, e10⟩ := hb3.cells
         have ef := hb3.free
         have H3 := hid (And.intro hb3 hk3)
         clear hb3 hk3 d0 d1 d2 d3 d4 d5 d6 d7 d8 d9 d10 df))
    go_ret
    obtain ⟨hb1, hk1⟩ := H1.out
    obtain ⟨hb2, hk2⟩ := H2.out
    obtain ⟨hb3, hk3⟩ := H3.out
    have k2 : Kept (fun k => k = r) W w2 := (((Kept.refl (fun k => k = r) W).setCell (p := ⟨r, 5, none⟩) (fun _ => rfl) _).setCell (p := ⟨r, 3, none⟩) (fun _ => rfl) _).trans hk2 (fun _ _ e => e)
    have k3 : Kept (fun k => k = r) w2 w3 := ((Kept.refl (fun k => k = r) w2).setCell (p := ⟨r, 3, none⟩) (fun _ => rfl) _).trans hk3 (fun _ _ e => e)
    have k4 := (hk1.trans k2 (fun _ _ e => e)).trans k3 (fun _ _ e => e)
    refine ⟨rfl, ⟨.slice none 0 0, .slice none 0 0, set_block (i := 10) (set_block (i := 9) (set_block (i := 8) (set_block (i := 7) (set_block (i := 6) hb3 _) _) _) _) _, rf_nil _ 2, (fun k e => by simp [Value.ownBlock] at e), _, _, _, rfl⟩, ?_⟩
    exact ((((k4.setCell (p := ⟨r, 6, none⟩) (fun _ => rfl) _).setCell (p := ⟨r, 7, none⟩) (fun _ => rfl) _).setCell (p := ⟨r, 8, none⟩) (fun _ => rfl) _).setCell (p := ⟨r, 9, none⟩) (fun _ => rfl) _).setCell (p := ⟨r, 10, none⟩) (fun _ => rfl) _

end
end Go.Proofs.YtlmompdfombgeaaGreat

namespace Go.Proofs.YtlmompdfombgeaaGreat
open Go.RowKit Go.MapKept

theorem flat_u8 : ∀ data : List Int, data.flatMap (fun y => [Value.int .u8 y]) = B8 data
  | [] => rfl
  | y :: l => by rw [List.flatMap_cons, flat_u8 l]; rfl

/-- Both disks, in the same state. -/
def Bo (w : World) (d r : Nat) (off : Bool) (cs : Int) (fs : List (Int × Int)) : Prop := ZD w d off cs fs ∧ ZR w r off cs fs ∧ d < r

theorem Bo.below {w w' : World} {d r : Nat} {off : Bool} {cs : Int} {fs : List (Int × Int)} (h : Bo w d r off cs fs) (hk : Below w.heap.size w w') : Bo w' d r off cs fs := ⟨h.1.below hk, h.2.1.below hk, h.2.2⟩

theorem ZR.lt {w : World} {r : Nat} {off : Bool} {cs : Int} {fs : List (Int × Int)} (h : ZR w r off cs fs) : r < w.heap.size := by
  obtain ⟨sv, rv, h1, h2, h3⟩ := h
  exact hp_lt h1

/-- Both disks, in some state of at most so many strokes. -/
def Bos (w : World) (d r : Nat) (cs : Int) : Prop := ∃ off' cs' fs', Bo w d r off' cs' fs' ∧ 0 ≤ cs' ∧ cs' ≤ cs ∧ fs'.length ≤ 300

/-- What a step leaves. -/
def StepPost (w : World) (d r : Nat) (cs : Int) (x : Ending) (w' : World) : Prop := x = .returned (.bool true) ∧ Bos w' d r (cs + 1) ∧ Kept (fun k => k = d ∨ k = r) w w'

theorem own_cell_u8 {w : World} {g : Nat} {bs : List Int} (ho : Own w g bs) (a : Addr) (ha : a.block = g) (u : Value) (h : w.cell? a = some u) : ∃ y, u = .int .u8 y := by
  obtain ⟨b, o, sp⟩ := a
  dsimp only at ha
  subst ha
  have hsp : sp = none := by simpa using World.cell?_spot h
  subst hsp
  rw [cell_of_row w b o _ _ _ ho] at h
  simp [B8] at h
  obtain ⟨y, _, rfl⟩ := h
  exact ⟨y, rfl⟩

theorem fl_other {w w' : World} {g : Nat} {bs : List Int} {v : Value} {fs : List (Int × Int)} (h : Fl w v fs) (ho : Own w g bs) (hk : Kept (fun k => k = g) w w') : Fl w' v fs := by
  obtain ⟨h0, h1, h2⟩ := h
  refine ⟨h0, h1, ?_⟩
  rcases h2 with h2 | ⟨a, cap, rfl, h3, h5, h4⟩
  · exact .inl h2
  · refine .inr ⟨a, cap, rfl, h3, h5, fun j u hu => hk.cell (h4 j u hu) (fun e => ?_)⟩
    obtain ⟨y, rfl⟩ := own_cell_u8 ho _ e u (h4 j u hu)
    obtain ⟨z, _, hz⟩ := List.mem_flatMap.1 (List.mem_of_getElem? hu)
    simp [fcs] at hz

theorem Bos.wipe {w w' : World} {d r g : Nat} {bs : List Int} {cs : Int} (h : Bos w d r cs) (ho : Own w g bs) (hk : Kept (fun k => k = g) w w') (hd : d ≠ g) (hr : r ≠ g) : Bos w' d r cs := by
  obtain ⟨off', cs', fs', ⟨h1, ⟨sv, rv, h2, h3, h4⟩, h5⟩, h6⟩ := h
  exact ⟨off', cs', fs', ⟨h1.kept hk hd (fun b es c hb e => by subst e; exact hp_ne ho hb (by simp) rfl), ⟨sv, rv, hp_kept h2 hk hr, fl_other h3 ho hk, h4⟩, h5⟩, h6⟩

set_option maxRecDepth 100000 in
set_option maxHeartbeats 6400000 in
theorem step_other (x : Sp) (w0 w : World) (d r : Nat) (off : Bool) (cs : Int) (fs : List (Int × Int)) (hx : x.ok w0) (hw0 : Below w0.heap.size w0 w) (_hd0 : w0.heap.size ≤ d) (_hr0 : w0.heap.size ≤ r) (hsm : x.small) (h : Bo w d r off cs fs) (h0 : 0 ≤ cs) (_h1 : cs ≤ 1000) (hl : fs.length ≤ 300) (hk : x.kind < 1 ∨ 11 < x.kind) :
    Calls Tryz.prog 14 #[.pointer (some ⟨d, 0, none⟩), .pointer (some ⟨r, 0, none⟩), .agg #[.int .i64 x.kind, .string x.name, .string x.to, x.dv, .int .i64 x.n, x.sv, x.rv, .int .i64 x.pn, x.fv]] w (StepPost w d r cs) := by
  obtain ⟨kind, name, to, dv, data, nn, sv, gs, rv, gr, pn, fv, pk⟩ := x
  obtain ⟨-, -, hpn, hn1, hn2, hdt, hoct, hfs, -, hfr, -, hpk⟩ := hx
  obtain ⟨m1, m2, m3, m4, m5, m6, m7⟩ := hsm
  obtain ⟨a1, q1, e1, d1, d2⟩ := hdt.shape
  obtain ⟨a2, q2, e2, d3, d4⟩ := hfs.shape
  obtain ⟨a3, q3, e3, d5, d6⟩ := hfr.shape
  obtain ⟨a4, q4, e4, d7, d8⟩ := hpk.1.shape
  dsimp only at e1 e2 e3 e4 hn1 hn2 hk d1 d2 d3 d4 d5 d6 d7 d8 hdt hfs hfr hpk m1 m2 m3 m4 m5 m6 m7 hpn
  subst e1 e2 e3 e4
  dsimp only
  have hdt' : Rf w0 1 (.slice a1 data.length q1) data.length (B8 data) := by
    rw [← flat_u8]
    exact hdt
  have hsl0 : Sl w0 (.slice a1 data.length q1) data := hdt'.sl.1
  have hdl := h.1.lt
  have hrl := h.2.1.lt
  have hw0z := hw0.size
  have HX := hid (And.intro h (And.intro hw0 (And.intro hsl0 (And.intro hfs (And.intro hfr hpk)))))
  have HM7 := hid m7
  clear h hw0 hsl0 hfs hfr hpk hdt hdt' hoct m7
  have g1 : ¬ kind = 1 := by omega
  have g2 : ¬ kind = 2 := by omega
  have g3 : ¬ kind = 3 := by omega
  have g4 : ¬ kind = 4 := by omega
  have g5 : ¬ kind = 5 := by omega
  have g6 : ¬ kind = 6 := by omega
  have g7 : ¬ kind = 7 := by omega
  have g8 : ¬ kind = 8 := by omega
  have g9 : ¬ kind = 9 := by omega
  have g10 : ¬ kind = 10 := by omega
  have g11 : ¬ kind = 11 := by omega
  clear hk
  have hbx : Below w.heap.size w (w.alloc (.cells #[.int .i64 kind, .string name, .string to, .slice a1 data.length q1, .int .i64 nn, .slice a2 gs.length q2, .slice a3 gr.length q3, .int .i64 pn, .slice a4 pk.length q4] 43)) := (Below.refl _ _).alloc (Nat.le_refl _) _
  have HBX := hid hbx
  clear hbx
  go_enter Tryz.func14, Tryz.ntmps14
  go_wp2_with (
    go_at_call 51
    refine (roomy_any (.slice a1 data.length q1) data _ ((HX.out.2.2.1.below HX.out.2.1).below HBX.out) (by omega)).mono ?_
    rintro e w1 ⟨rfl, ho1, hb1⟩
    have es := (show (w.alloc (.cells #[.int .i64 kind, .string name, .string to, .slice a1 data.length q1, .int .i64 nn, .slice a2 gs.length q2, .slice a3 gr.length q3, .int .i64 pn, .slice a4 pk.length q4] 43)).heap.size = w.heap.size + 1 from by simp)
    rw [es] at ho1 hb1 ⊢
    have hbw1 : Below w.heap.size w w1 := HBX.out.trans (hb1.mono (by omega))
    have x0 : w1.cell? ⟨w.heap.size, 0, none⟩ = some (.int .i64 kind) := (hb1.cell (by simp)).trans (by simp [go_sem])
    have x1 : w1.cell? ⟨w.heap.size, 1, none⟩ = some (.string name) := (hb1.cell (by simp)).trans (by simp [go_sem])
    have x2 : w1.cell? ⟨w.heap.size, 2, none⟩ = some (.string to) := (hb1.cell (by simp)).trans (by simp [go_sem])
    have x3 : w1.cell? ⟨w.heap.size, 3, none⟩ = some (.slice a1 data.length q1) := (hb1.cell (by simp)).trans (by simp [go_sem])
    have x4 : w1.cell? ⟨w.heap.size, 4, none⟩ = some (.int .i64 nn) := (hb1.cell (by simp)).trans (by simp [go_sem])
    have x5 : w1.cell? ⟨w.heap.size, 5, none⟩ = some (.slice a2 gs.length q2) := (hb1.cell (by simp)).trans (by simp [go_sem])
    have x6 : w1.cell? ⟨w.heap.size, 6, none⟩ = some (.slice a3 gr.length q3) := (hb1.cell (by simp)).trans (by simp [go_sem])
    have x7 : w1.cell? ⟨w.heap.size, 7, none⟩ = some (.int .i64 pn) := (hb1.cell (by simp)).trans (by simp [go_sem])
    have x8 : w1.cell? ⟨w.heap.size, 8, none⟩ = some (.slice a4 pk.length q4) := (hb1.cell (by simp)).trans (by simp [go_sem])
    have hz1 : w.heap.size + 1 < w1.heap.size := hp_lt ho1
    have H1 := hid (And.intro ho1 (And.intro hbw1 (HX.out.1.below hbw1)))
    clear ho1 hb1 es hbw1)
  have hS : Own w1 (w.heap.size + 1) (rm data) ∧ Sl w1 (.slice a1 data.length q1) data ∧ Bos w1 d r (cs + 1) ∧ Kept (fun k => k = d ∨ k = r) w w1 := by
    obtain ⟨ho1, hb1, hz1⟩ := H1.out
    exact ⟨ho1, (HX.out.2.2.1.below HX.out.2.1).below hb1, ⟨off, cs, fs, hz1, h0, by omega, hl⟩, (Kept.ofBelow hb1).mono (fun _ _ e => e.elim)⟩
  have HS := hid hS
  clear hS
  go_wp2_with (
    go_at_call 68
    refine (left_any (.slice a1 data.length q1) data (w.heap.size + 1) w1 HS.out.2.1 (by omega) HS.out.1).mono ?_
    rintro e w9 ⟨rfl, hdn⟩
    have H9 := hid hdn
    clear hdn)
  go_loopw [16] (fun i wr => ∃ (k : Nat) (bs : List Int), k ≤ data.length + 40 ∧ i = .int .i64 k ∧ bs.length = data.length + 40 ∧ Own wr (w.heap.size + 1) bs ∧ Hid (Kept (fun k => k = w.heap.size + 1) w1 wr)) (fun i _ => data.length + 40 - (intOf i).toNat)
  case atStart =>
    obtain ⟨m, rfl⟩ := H9.out
    exact ⟨0, rm data, Nat.zero_le _, by go_num, by simp [rm], HS.out.1, hid ((Kept.refl _ _).drewN m)⟩
  case round =>
    obtain ⟨k, bs, hk9, rfl, hbs, ho9, HK⟩ := hrel
    by_cases hlt : k < data.length + 40
    · have cd := ho9.cell k bs[k] (by simp [hbs, hlt])
      have fz := free_of_block (o := k) ho9
      have i2 : (k : Int) < ((data.length + 40 : Nat) : Int) := by omega
      have i3 : (k : Int) < (data.length : Int) + 40 := by omega
      have HO := hid ho9
      clear ho9
      go_wp2
      go_roundw
      case rel => exact ⟨k + 1, bs.set k 99, by omega, by go_num, by simp [hbs], HO.out.set k 99, hid (HK.out.setCell (p := ⟨w.heap.size + 1, k, none⟩) (fun _ => rfl) _)⟩
      case measure => simp [intOf]; omega
    · have i2 : ¬ (k : Int) < ((data.length + 40 : Nat) : Int) := by omega
      have i3 : ¬ (k : Int) < (data.length : Int) + 40 := by omega
      have HO := hid ho9
      clear ho9
      go_wp2
      go_ret
      obtain ⟨so, ss, sb, sk⟩ := HS.out
      exact ⟨rfl, sb.wipe so HK.out (by omega) (by omega), sk.trans HK.out (fun i hi e => by omega)⟩

end Go.Proofs.YtlmompdfombgeaaGreat
