import Derived.Test.YtlmompdfombgeabGreatK32
import Derived.Test.YtlmompdfombgeabGreatK29
namespace Go.Proofs.YtlmompdfombgeabGreat
open Go.RowKit Go.MapKept

/-- The name of the file. -/
abbrev nmA : ByteArray := { data := #[97] }
/-- Fives, sevens. -/
abbrev s5 : List Int := [5, 5, 5, 5]
abbrev s7 : List Int := [7, 7, 7, 7, 7, 7, 7, 7, 7, 7, 7, 7, 7, 7, 7, 7, 7, 7, 7, 7]

theorem sl_new (w : World) (bs : List Int) (hl : bs.length ≤ maxLen) : Sl (w.alloc (.cells (B8 bs).toArray 5)) (.slice (some ⟨w.heap.size, 0, none⟩) bs.length bs.length) bs :=
  sl_of_owns ((show Own (w.alloc (.cells (B8 bs).toArray 5)) w.heap.size bs from hp_new _ _).owns (Nat.zero_le _) hl)

set_option maxRecDepth 100000 in
set_option maxHeartbeats 6400000 in
theorem known_any (w : World) : Calls Tryz.prog 8 #[] w fun x w' => x = .returned (.bool true) ∧ Below w.heap.size w w' := by
  have hok : nmOK nmA = true := by decide
  have hnm : nmA.size ≤ maxLen := by decide
  have hne : Hid (nmA.toList.isEmpty = false) := hid (by kernel_rfl)
  have hns : nmA.size ≤ 1000000 := by decide
  go_enter Tryz.func8, Tryz.ntmps8
  go_wp2_with (
    go_at_call 34
    refine (new_ok 100 3 w (by omega) (by omega) (by omega) (by omega)).mono ?_
    rintro e w1 ⟨rfl, hz1, hb1⟩
    have H1 := hid (And.intro hz1 hb1)
    clear hz1 hb1)
  go_wp2_with (
    go_at_call 20
    refine (create_new (nm := nmA) H1.out.1 H1.out.2.size (by omega) hok hns hne.out (by omega) (by omega)).mono ?_
    rintro e w2 ⟨rfl, p, vs, vd, vf, vn, ho2, hb2⟩
    have H2 := hid (And.intro ho2 (H1.out.2.trans hb2))
    clear ho2 hb2)
  go_wp2_with (
    go_at_call 20
    refine (create_old H2.out.1 hok hnm).mono ?_
    rintro e w3 ⟨rfl, hb3⟩
    have H3 := hid (And.intro (H2.out.1.below hb3) (H2.out.2.trans (hb3.mono H2.out.2.size)))
    clear hb3)
  have h3z := H3.out.2.size
  have h3d := hp_lt H3.out.1.disk
  go_wp2_with (
    go_at_call 22
    refine (append_one (H3.out.1.below ((Below.refl _ w3).alloc (Nat.le_refl _) (.cells (B8 s5).toArray 5))) (by simp; omega) (some ⟨w3.heap.size, 0, none⟩) 4 s5 (sl_new w3 s5 (by decide)) (by intro k hk; simp [Value.ownBlock] at hk; omega) (by decide) hok hnm (by omega) (by omega) (by decide) (by decide) (by decide) (by decide) (by omega) (by omega) (by decide)).mono ?_
    rintro e w4 ⟨rfl, pd4, vp4, vd4, vf4, ho4, hb4⟩
    have H4 := hid (And.intro (show One w.heap.size w4 w.heap.size (w.heap.size + 1) (w.heap.size + 2) (w.heap.size + 3) p nmA 100 3 #[] 2 0 [] [.inl s5] s5 (frs 0 4) 4 1 _ vn _ _ pd4 vs vp4 vd4 vf4 1 0 1 0 0 from ho4) ((H3.out.2.alloc (by omega) _).trans hb4))
    clear ho4 hb4)
  go_wp2_with (
    go_at_call 17
    refine (sync_one (m := 0) (t := 4) H4.out.1 H4.out.2.size (by decide) (by decide) (by decide) (by decide) (by decide) hok hnm (by omega) (by omega)).mono ?_
    rintro e w5 ⟨rfl, vs5, ho5, hb5⟩
    have H5 := hid (And.intro (show One w.heap.size w5 w.heap.size (w.heap.size + 1) (w.heap.size + 2) (w.heap.size + 3) p nmA 100 3 #[] 3 0 s5 [] s5 (frs 4 0) 4 1 _ vn _ _ [] vs5 _ vd4 vf4 1 0 1 0 0 from ho5) (H4.out.2.trans hb5))
    clear ho5 hb5)
  have h5z := H5.out.2.size
  have h5d := hp_lt H5.out.1.disk
  go_wp2_with (
    go_at_call 22
    refine (append_one (H5.out.1.below ((Below.refl _ w5).alloc (Nat.le_refl _) (.cells (B8 s7).toArray 5))) (by simp; omega) (some ⟨w5.heap.size, 0, none⟩) 20 s7 (sl_new w5 s7 (by decide)) (by intro k hk; simp [Value.ownBlock] at hk; omega) (by decide) hok hnm (by omega) (by omega) (by decide) (by decide) (by decide) (by decide) (by omega) (by omega) (by decide)).mono ?_
    rintro e w6 ⟨rfl, pd6, vp6, vd6, vf6, ho6, hb6⟩
    have H6 := hid (And.intro (show One w.heap.size w6 w.heap.size (w.heap.size + 1) (w.heap.size + 2) (w.heap.size + 3) p nmA 100 3 #[] 4 0 s5 [.inl s7] (s5 ++ s7) (frs 4 20) 24 1 _ vn _ _ pd6 vs5 vp6 vd6 vf6 1 0 1 0 0 from ho6) ((H5.out.2.alloc (by omega) _).trans hb6))
    clear ho6 hb6)
  go_wp2_with (
    go_at_call 18
    refine (syncNames_one H6.out.1 H6.out.2.size (by omega) (by omega)).mono ?_
    rintro e w7 ⟨rfl, L7, F7, ho7, hb7⟩
    have c8 := ho7.disk.cells.2.2.2.2.2.2.2.2.1
    have H7 := hid (And.intro (show One w.heap.size w7 w.heap.size L7 (w.heap.size + 2) F7 p nmA 100 3 #[{ key := .string nmA, val := .int .i64 1, born := 0 }] 5 0 s5 [.inl s7] (s5 ++ s7) (frs 4 20) 24 0 [] (.slice none 0 0) _ _ pd6 vs5 vp6 vd6 vf6 1 0 1 0 1 from ho7) (H6.out.2.trans hb7))
    clear ho7 hb7)
  go_wp2_with (
    go_at_call 28
    refine (strokes_any w.heap.size 5 w7 c8).mono ?_
    rintro e w8 ⟨rfl, rfl⟩)
  have h7z := H7.out.2.size
  have hb8 : Below w8.heap.size w8 ((w8.alloc (.cells #[.int .i64 0] 3)).alloc (.cells #[.int .i64 1, .slice (some ⟨w8.heap.size, 0, none⟩) 1 1] 77)) := ((Below.refl _ _).alloc (Nat.le_refl _) _).alloc (by simp) _
  have h8p := hp_lt H7.out.1.file.blk
  have h8d := hp_lt H7.out.1.disk
  have hcr := crash_one (H7.out.1.below hb8) (by simp; omega) (by omega) (w8.heap.size + 1) w8.heap.size (by simp [go_sem]) (by simp [go_sem]) (by simp [go_sem]) (by omega) (by decide) (by decide) (by decide) hnm
  have HCR := hid hcr
  have HB8 := hid hb8
  clear hcr hb8
  go_wp2_with (
    go_at_call 12
    refine HCR.out.mono ?_
    rintro e w9 ⟨X, cap, Y, D, L9, N9, F9, sf9, k19, k29, vs9, vd9, vf9, cM9, bM9, rfl, hx0, hx1, hOY, hD, ho9, hb9⟩
    have H9 := hid (And.intro hx0 (And.intro hx1 (And.intro hOY (And.intro hD (And.intro ho9 ((H7.out.2.trans (HB8.out.mono h7z)).trans hb9))))))
    clear hx0 hx1 hOY hD ho9 hb9)
  have hDl : D.length = 24 := by rw [H9.out.2.2.2.1]; decide
  have hrd := read_one H9.out.2.2.2.2.1 hok hnm (by omega) (by omega) (by rw [hDl]; omega)
  rw [hDl] at hrd
  have HRD := hid hrd
  have HDL := hid hDl
  clear hrd hDl
  go_wp2_with (
    go_at_call 27
    refine HRD.out.mono ?_
    rintro e w10 ⟨Y2, rfl, hO2, hc10, hY2, hk10⟩
    obtain ⟨hx0, hx1, hOY, hD, ho9, hb9⟩ := H9.out
    have hXd : X ≠ w.heap.size := by
      intro e
      have := ho9.disk.cells.1
      rw [← e, hx0] at this
      cases this
    have hYd : Y ≠ w.heap.size := hp_ne hOY ho9.disk (by simp)
    have y1 : w10.cell? ⟨X, 1, none⟩ = some (.slice (some ⟨Y, 0, none⟩) 24 24) := hk10.cell hx1 (by simpa using hXd)
    have y2 : w10.cell? ⟨Y, 4, none⟩ = some (.int .u8 7) := by
      have h := hp_kept hOY hk10 (by simpa using hYd)
      rw [cell_of_row w10 Y 4 _ _ _ h]
      rfl
    have ez : D = [5, 5, 5, 5, 0, 0, 0, 0, 0, 0, 0, 0, 0, 0, 0, 0, 7, 7, 7, 7, 7, 7, 7, 7] := by rw [hD]; decide
    have hO3 := hO2
    rw [ez] at hO3
    have z3 : w10.cell? ⟨Y2, 3, none⟩ = some (.int .u8 5) := by rw [cell_of_row w10 Y2 3 _ _ _ hO3]; rfl
    have z4 : w10.cell? ⟨Y2, 4, none⟩ = some (.int .u8 0) := by rw [cell_of_row w10 Y2 4 _ _ _ hO3]; rfl
    have z15 : w10.cell? ⟨Y2, 15, none⟩ = some (.int .u8 0) := by rw [cell_of_row w10 Y2 15 _ _ _ hO3]; rfl
    have z16 : w10.cell? ⟨Y2, 16, none⟩ = some (.int .u8 7) := by rw [cell_of_row w10 Y2 16 _ _ _ hO3]; rfl
    have hbF : Below w.heap.size w w10 := hb9.trans (hk10.below hb9.size (fun k hk e => by omega))
    have HBF := hid hbF
    clear hx0 hx1 hOY hD ho9 hb9 hO2 hO3 hY2 hk10 hXd hYd ez hbF)
  go_wp2_with (
    go_at_call 29
    refine (reads_any w.heap.size 1 w10 hc10).mono ?_
    rintro e w11 ⟨rfl, rfl⟩)
  go_ret
  exact ⟨rfl, HBF.out⟩

end Go.Proofs.YtlmompdfombgeabGreat

namespace Go.Proofs.YtlmompdfombgeabGreat
open Go.RowKit Go.MapKept

set_option maxRecDepth 100000 in
set_option maxHeartbeats 1600000 in
theorem new_no (room files : Int) (w : World) (h : ¬ (0 ≤ room ∧ room ≤ 4194304 ∧ 0 ≤ files ∧ files ≤ 512)) :
    Calls Tryz.prog 34 #[.int .i64 room, .int .i64 files] w fun x w' => x = .returned (.tuple #[.pointer none, .int .i64 1]) ∧ w' = w := by
  by_cases a : room < 0
  · go_enter Tryz.func34, Tryz.ntmps34
    go_wp2
    go_ret2
    exact ⟨rfl, rfl⟩
  · by_cases b : 4194304 < room
    · go_enter Tryz.func34, Tryz.ntmps34
      go_wp2
      go_ret2
      exact ⟨rfl, rfl⟩
    · by_cases c : files < 0
      · go_enter Tryz.func34, Tryz.ntmps34
        go_wp2
        go_ret2
        exact ⟨rfl, rfl⟩
      · have d : 512 < files := by omega
        go_enter Tryz.func34, Tryz.ntmps34
        go_wp2
        go_ret2
        exact ⟨rfl, rfl⟩

set_option maxRecDepth 100000 in
set_option maxHeartbeats 800000 in
theorem fresh_no (room files : Int) (w : World) (h : ¬ (0 ≤ room ∧ room ≤ 4194304 ∧ 0 ≤ files ∧ files ≤ 512)) :
    Calls Tryz.prog 9 #[.int .i64 room, .int .i64 files] w fun x w' => x = .returned (.pointer none) ∧ w' = w := by
  have HC := hid (new_no room files w h)
  clear h
  go_enter Tryz.func9, Tryz.ntmps9
  go_wp2_with (go_at_call 34; refine HC.out.mono ?_; rintro e w' ⟨rfl, e1⟩; rw [e1]; clear e1 w')
  go_ret
  exact ⟨rfl, rfl⟩

set_option maxRecDepth 100000 in
set_option maxHeartbeats 800000 in
theorem fresh_ok (room files : Int) (w : World) (h0 : 0 ≤ room) (h1 : room ≤ 4194304) (h2 : 0 ≤ files) (h3 : files ≤ 512) :
    Calls Tryz.prog 9 #[.int .i64 room, .int .i64 files] w fun x w' => x = .returned (.pointer (some ⟨w.heap.size, 0, none⟩)) ∧ (∃ t, DkT w' w.heap.size t (newD room files) ∧ ∀ k, Dft w.heap.size t (newD room files) k → w.heap.size ≤ k) ∧ Below w.heap.size w w' := by
  have HC := hid (new_ok room files w h0 h1 h2 h3)
  go_enter Tryz.func9, Tryz.ntmps9
  go_wp2_with (go_at_call 34; refine HC.out.mono ?_; rintro e w1 ⟨rfl, hz, hb⟩; have HZ := hid (And.intro hz hb); clear hz hb)
  go_ret
  exact ⟨rfl, zero_dk HZ.out.1, HZ.out.2⟩

theorem stroke_room (D : Dq) (e : Int) (k : Dq → Int × Dq) (hk : ∀ D, (k D).2.room = D.room ∧ (k D).2.limit = D.limit) : (strokeP D e k).2.room = D.room ∧ (strokeP D e k).2.limit = D.limit := by
  unfold strokeP
  split
  · exact ⟨rfl, rfl⟩
  · split
    · exact ⟨rfl, rfl⟩
    · exact hk (cntS D)

theorem doesP_room (x : Sp) (D : Dq) : (doesP x D).2.room = D.room ∧ (doesP x D).2.limit = D.limit := by
  unfold doesP
  repeat' split
  · exact stroke_room _ _ _ fun D => by unfold createK; split <;> exact ⟨rfl, rfl⟩
  · exact stroke_room _ _ _ fun D => by unfold appK; (repeat' split) <;> exact ⟨rfl, rfl⟩
  · exact stroke_room _ _ _ fun D => by unfold cutK; dsimp only; (repeat' split) <;> exact ⟨rfl, rfl⟩
  · exact stroke_room _ _ _ fun D => by unfold syncK; dsimp only; (repeat' split) <;> exact ⟨rfl, rfl⟩
  · exact stroke_room _ _ _ fun D => ⟨rfl, rfl⟩
  · exact stroke_room _ _ _ fun D => by unfold renK; dsimp only; (repeat' split) <;> exact ⟨rfl, rfl⟩
  · exact stroke_room _ _ _ fun D => ⟨rfl, rfl⟩
  · unfold readP; (repeat' split) <;> exact ⟨rfl, rfl⟩
  · exact ⟨rfl, rfl⟩
  · exact ⟨rfl, rfl⟩
  · unfold handP; (repeat' split) <;> exact ⟨rfl, rfl⟩
  · exact ⟨rfl, rfl⟩

/-- What a crash has left. -/
theorem doesP_crash (x : Sp) (D : Dq) {n : Nat} (h : WD n D) (hk : x.kind = 10) : Calm (doesP x D).2 ∧ heldD (doesP x D).2 ≤ heldD D ∧ (doesP x D).2.files.length ≤ D.files.length ∧ (doesP x D).2.off = false ∧ (doesP x D).2.st = 0 ∧ (doesP x D).2.rd = 0 := by
  have e : doesP x D = (0, (crashP x.pn (pksOf x.pk) D).2) := by
    unfold doesP
    rw [if_neg (by omega), if_neg (by omega), if_neg (by omega), if_neg (by omega), if_neg (by omega), if_neg (by omega), if_neg (by omega), if_neg (by omega), if_neg (by omega), if_pos hk]
  rw [e]
  exact ⟨calm_crash _ _, crash_held h _ _, crash_cnt _ _, rfl, rfl, rfl⟩

end Go.Proofs.YtlmompdfombgeabGreat
