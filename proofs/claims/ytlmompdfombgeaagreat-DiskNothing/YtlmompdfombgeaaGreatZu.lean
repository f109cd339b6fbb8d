import Derived.Test.YtlmompdfombgeaaGreatZs
namespace Go.Proofs.YtlmompdfombgeaaGreat
open Go.RowKit Go.MapKept

section
variable {w : World} {r : Nat} {fs : List (Int × Int)} {cs : Int} {off : Bool}

set_option maxRecDepth 100000 in
set_option maxHeartbeats 3200000 in
theorem rcrash_z (pn : Int) (hpn : I64 pn) (ao : Option Addr) (n c : Nat) (h : ZR w r off cs fs) :
    Calls Tryz.prog 65 #[.pointer (some ⟨r, 0, none⟩), .agg #[.int .i64 pn, .slice ao n c]] w fun x w' => x = .returned (.slice none 0 0) ∧ ZR w' r false 0 [] ∧ Kept (fun k => k = r) w w' := by
  obtain ⟨sv, rv, hb, hf, hn, a0, n0, q0, rfl⟩ := h
  obtain ⟨a1, q1, rfl, -, -⟩ := hf.shape
  replace hb : RB w r (.slice a1 fs.length q1) (.slice a0 n0 q0) cs off := hb
  obtain ⟨c0, c1, c2, c3, c4, c5, c6, c7, c8, c9, c10⟩ := hb.cells
  have ff := hb.free
  have hrl := hp_lt hb
  have H := hid hb
  clear hb hf hn
  have c4a : (w.alloc (.cells #[.int .i64 pn, .slice ao n c] 41)).drew.cell? ⟨r, 4, none⟩ = some (.slice none 0 0) := by
    show (w.alloc (.cells #[.int .i64 pn, .slice ao n c] 41)).cell? ⟨r, 4, none⟩ = some (.slice none 0 0)
    rw [World.cell?_alloc_past _ _ _ hrl]; exact c4
  have HN := hid (names_zero r (w.alloc (.cells #[.int .i64 pn, .slice ao n c] 41)).drew c4a)
  clear c4a
  go_enter Tryz.func65, Tryz.ntmps65
  go_wp2_with fail
  go_region_with (first
    | (go_at_call 114; refine (Round_of1 pn _ hpn).mono ?_; rintro e w' ⟨rfl, e1⟩; rw [e1]; clear e1 w')
    | (go_at_call 113; refine HN.out.mono ?_; rintro e w' ⟨rfl, e1⟩; rw [e1]; clear e1 w'))
  all_goals
    have hb1 : RB ((w.setCell ⟨r, 4, none⟩ (.slice none 0 0)).alloc (.cells #[.int .i64 pn, .slice ao n c] 41)).drew r (.slice a1 fs.length q1) (.slice a0 n0 q0) cs off := hp_alloc (set_block (i := 4) H.out _) _
    have hk1 : Kept (fun k => k = r) w ((w.setCell ⟨r, 4, none⟩ (.slice none 0 0)).alloc (.cells #[.int .i64 pn, .slice ao n c] 41)).drew := (((Kept.refl (fun k => k = r) w).setCell (p := ⟨r, 4, none⟩) (fun _ => rfl) _).alloc _).drew
    obtain ⟨W, hW⟩ : ∃ W, W = ((w.setCell ⟨r, 4, none⟩ (.slice none 0 0)).alloc (.cells #[.int .i64 pn, .slice ao n c] 41)).drew := ⟨_, rfl⟩
    rw [← hW] at hb1 hk1 ⊢
    clear hW HN c0 c1 c2 c3 c4 c5 c6 c7 c8 c9 c10 ff H
    obtain ⟨c0, c1, c2, c3, c4, c5, c6, c7, c8, c9, c10⟩ := hb1.cells
    have ff := hb1.free
    have H1 := hid (And.intro hb1 hk1)
    clear hb1 hk1
    go_wp2
    refine wp_loop_rounds 1 ?_
    rw [rounds_succ]
    go_wp2_with (first
      | (go_at_call 107
         (with_reducible show Calls _ _ _ ((W.setCell ⟨r, 5, none⟩ (.slice none 0 0)).setCell ⟨r, 3, none⟩ (.slice none 0 0)) _)
         refine (forget_z (w := (W.setCell ⟨r, 5, none⟩ (.slice none 0 0)).setCell ⟨r, 3, none⟩ (.slice none 0 0)) (sv := .slice a1 fs.length q1) (rv := .slice a0 n0 q0) (cs := cs) (off := off) (set_block (i := 3) (set_block (i := 5) H1.out.1 _) _)).mono ?_
         rintro e w2 ⟨rfl, hb2, hk2⟩
         obtain ⟨d0, d1, d2, d3, d4, d5, d6, d7, d8, d9, d10⟩ := hb2.cells
         have df := hb2.free
         have H2 := hid (And.intro hb2 hk2)
         clear hb2 hk2 c0 c1 c2 c3 c4 c5 c6 c7 c8 c9 c10 ff)
      | (go_at_call 102; refine (rfiles_zero r _ _).mono ?_; rintro e w' ⟨rfl, e1⟩; rw [e1]; clear e1 w')
      | (go_at_call 107
         (with_reducible show Calls _ _ _ (w2.setCell ⟨r, 3, none⟩ (.slice none 0 0)) _)
         refine (forget_z (w := w2.setCell ⟨r, 3, none⟩ (.slice none 0 0)) (sv := .slice a1 fs.length q1) (rv := .slice a0 n0 q0) (cs := cs) (off := off) (set_block (i := 3) H2.out.1 _)).mono ?_
         rintro e w3 ⟨rfl, hb3, hk3⟩
         obtain ⟨e0, e1, e2, e3, e4, e5, e6, e7, e8, e9, e10⟩ := hb3.cells
         have ef := hb3.free
         have H3 := hid (And.intro hb3 hk3)
         clear hb3 hk3 d0 d1 d2 d3 d4 d5 d6 d7 d8 d9 d10 df))
    go_ret
    obtain ⟨hb1, hk1⟩ := H1.out
    obtain ⟨hb2, hk2⟩ := H2.out
    obtain ⟨hb3, hk3⟩ := H3.out
    have k2 : Kept (fun k => k = r) W w2 := (((Kept.refl (fun k => k = r) W).setCell (p := ⟨r, 5, none⟩) (fun _ => rfl) _).setCell (p := ⟨r, 3, none⟩) (fun _ => rfl) _).trans hk2 (fun _ _ e => e)
    have k3 : Kept (fun k => k = r) w2 w3 := ((Kept.refl (fun k => k = r) w2).setCell (p := ⟨r, 3, none⟩) (fun _ => rfl) _).trans hk3 (fun _ _ e => e)
    have k4 := (hk1.trans k2 (fun _ _ e => e)).trans k3 (fun _ _ e => e)
    refine ⟨rfl, ⟨.slice none 0 0, .slice none 0 0, set_block (i := 10) (set_block (i := 9) (set_block (i := 8) (set_block (i := 7) (set_block (i := 6) hb3 _) _) _) _) _, rf_nil _ 2, (fun k e => by simp [Value.ownBlock] at e), _, _, _, rfl⟩, ?_⟩
    exact ((((k4.setCell (p := ⟨r, 6, none⟩) (fun _ => rfl) _).setCell (p := ⟨r, 7, none⟩) (fun _ => rfl) _).setCell (p := ⟨r, 8, none⟩) (fun _ => rfl) _).setCell (p := ⟨r, 9, none⟩) (fun _ => rfl) _).setCell (p := ⟨r, 10, none⟩) (fun _ => rfl) _

end
end Go.Proofs.YtlmompdfombgeaaGreat
