import Derived.Test.YtlmompdfombgeaaGreatK32
import Derived.Test.YtlmompdfombgeaaGreatK29
namespace Go.Proofs.YtlmompdfombgeaaGreat
open Go.RowKit Go.MapKept

/-- The name of the file. -/
abbrev nmA : ByteArray := { data := #[97] }
/-- Fives, sevens. -/
abbrev s5 : List Int := [5, 5, 5, 5]
abbrev s7 : List Int := [7, 7, 7, 7, 7, 7, 7, 7, 7, 7, 7, 7, 7, 7, 7, 7, 7, 7, 7, 7]

theorem sl_new (w : World) (bs : List Int) (hl : bs.length ≤ maxLen) : Sl (w.alloc (.cells (B8 bs).toArray 5)) (.slice (some ⟨w.heap.size, 0, none⟩) bs.length bs.length) bs :=
  sl_of_owns ((show Own (w.alloc (.cells (B8 bs).toArray 5)) w.heap.size bs from hp_new _ _).owns (Nat.zero_le _) hl)

set_option maxRecDepth 100000 in
set_option maxHeartbeats 6400000 in
theorem known_any (w : World) : Calls Tryz.prog 12 #[] w fun x w' => x = .returned (.bool true) ∧ Below w.heap.size w w' := by
  have hok : nmOK nmA = true := by decide
  have hnm : nmA.size ≤ maxLen := by decide
  have hne : Hid (nmA.toList.isEmpty = false) := hid (by kernel_rfl)
  have hns : nmA.size ≤ 1000000 := by decide
  go_enter Tryz.func12, Tryz.ntmps12
  go_wp2_with (
    go_at_call 9
    refine (new_ok 100 3 w (by omega) (by omega) (by omega) (by omega)).mono ?_
    rintro e w1 ⟨rfl, hz1, hb1⟩
    have H1 := hid (And.intro hz1 hb1)
    clear hz1 hb1)
  go_wp2_with (
    go_at_call 20
    refine (create_new (nm := nmA) H1.out.1 H1.out.2.size (by omega) hok hns hne.out (by omega) (by omega)).mono ?_
    rintro e w2 ⟨rfl, p, vs, vd, vf, vn, ho2, hb2⟩
    have H2 := hid (And.intro ho2 (H1.out.2.trans hb2))
    clear ho2 hb2)
  go_wp2_with (
    go_at_call 20
    refine (create_old H2.out.1 hok hnm).mono ?_
    rintro e w3 ⟨rfl, hb3⟩
    have H3 := hid (And.intro (H2.out.1.below hb3) (H2.out.2.trans (hb3.mono H2.out.2.size)))
    clear hb3)
  have h3z := H3.out.2.size
  have h3d := hp_lt H3.out.1.disk
  go_wp2_with (
    go_at_call 21
    refine (append_one (H3.out.1.below ((Below.refl _ w3).alloc (Nat.le_refl _) (.cells (B8 s5).toArray 5))) (by simp; omega) (some ⟨w3.heap.size, 0, none⟩) 4 s5 (sl_new w3 s5 (by decide)) (by intro k hk; simp [Value.ownBlock] at hk; omega) (by decide) hok hnm (by omega) (by omega) (by decide) (by decide) (by decide) (by decide) (by omega) (by omega) (by decide)).mono ?_
    rintro e w4 ⟨rfl, pd4, vp4, vd4, vf4, ho4, hb4⟩
    have H4 := hid (And.intro (show One w.heap.size w4 w.heap.size (w.heap.size + 1) (w.heap.size + 2) (w.heap.size + 3) p nmA 100 3 #[] 2 0 [] [.inl s5] s5 (frs 0 4) 4 1 _ vn _ _ pd4 vs vp4 vd4 vf4 1 0 1 0 0 from ho4) ((H3.out.2.alloc (by omega) _).trans hb4))
    clear ho4 hb4)
  go_wp2_with (
    go_at_call 23
    refine (sync_one (m := 0) (t := 4) H4.out.1 H4.out.2.size (by decide) (by decide) (by decide) (by decide) (by decide) hok hnm (by omega) (by omega)).mono ?_
    rintro e w5 ⟨rfl, vs5, ho5, hb5⟩
    have H5 := hid (And.intro (show One w.heap.size w5 w.heap.size (w.heap.size + 1) (w.heap.size + 2) (w.heap.size + 3) p nmA 100 3 #[] 3 0 s5 [] s5 (frs 4 0) 4 1 _ vn _ _ [] vs5 _ vd4 vf4 1 0 1 0 0 from ho5) (H4.out.2.trans hb5))
    clear ho5 hb5)
  have h5z := H5.out.2.size
  have h5d := hp_lt H5.out.1.disk
  go_wp2_with (
    go_at_call 21
    refine (append_one (H5.out.1.below ((Below.refl _ w5).alloc (Nat.le_refl _) (.cells (B8 s7).toArray 5))) (by simp; omega) (some ⟨w5.heap.size, 0, none⟩) 20 s7 (sl_new w5 s7 (by decide)) (by intro k hk; simp [Value.ownBlock] at hk; omega) (by decide) hok hnm (by omega) (by omega) (by decide) (by decide) (by decide) (by decide) (by omega) (by omega) (by decide)).mono ?_
    rintro e w6 ⟨rfl, pd6, vp6, vd6, vf6, ho6, hb6⟩
    have H6 := hid (And.intro (show One w.heap.size w6 w.heap.size (w.heap.size + 1) (w.heap.size + 2) (w.heap.size + 3) p nmA 100 3 #[] 4 0 s5 [.inl s7] (s5 ++ s7) (frs 4 20) 24 1 _ vn _ _ pd6 vs5 vp6 vd6 vf6 1 0 1 0 0 from ho6) ((H5.out.2.alloc (by omega) _).trans hb6))
    clear ho6 hb6)
  go_wp2_with (
    go_at_call 24
    refine (syncNames_one H6.out.1 H6.out.2.size (by omega) (by omega)).mono ?_
    rintro e w7 ⟨rfl, L7, F7, ho7, hb7⟩
    have c8 := ho7.disk.cells.2.2.2.2.2.2.2.2.1
    have H7 := hid (And.intro (show One w.heap.size w7 w.heap.size L7 (w.heap.size + 2) F7 p nmA 100 3 #[{ key := .string nmA, val := .int .i64 1, born := 0 }] 5 0 s5 [.inl s7] (s5 ++ s7) (frs 4 20) 24 0 [] (.slice none 0 0) _ _ pd6 vs5 vp6 vd6 vf6 1 0 1 0 1 from ho7) (H6.out.2.trans hb7))
    clear ho7 hb7)
  go_wp2_with (
    go_at_call 32
    refine (strokes_any w.heap.size 5 w7 c8).mono ?_
    rintro e w8 ⟨rfl, rfl⟩)
  have h7z := H7.out.2.size
  have hb8 : Below w8.heap.size w8 ((w8.alloc (.cells #[.int .i64 0] 3)).alloc (.cells #[.int .i64 1, .slice (some ⟨w8.heap.size, 0, none⟩) 1 1] 91)) := ((Below.refl _ _).alloc (Nat.le_refl _) _).alloc (by simp) _
  have h8p := hp_lt H7.out.1.file.blk
  have h8d := hp_lt H7.out.1.disk
  have hcr := crash_one (H7.out.1.below hb8) (by simp; omega) (by omega) (w8.heap.size + 1) w8.heap.size (by simp [go_sem]) (by simp [go_sem]) (by simp [go_sem]) (by omega) (by decide) (by decide) (by decide) hnm
  have HCR := hid hcr
  have HB8 := hid hb8
  clear hcr hb8
  go_wp2_with (
    go_at_call 28
    refine HCR.out.mono ?_
    rintro e w9 ⟨X, cap, Y, D, L9, N9, F9, sf9, k19, k29, vs9, vd9, vf9, cM9, bM9, rfl, hx0, hx1, hOY, hD, ho9, hb9⟩
    have H9 := hid (And.intro hx0 (And.intro hx1 (And.intro hOY (And.intro hD (And.intro ho9 ((H7.out.2.trans (HB8.out.mono h7z)).trans hb9))))))
    clear hx0 hx1 hOY hD ho9 hb9)
  have hDl : D.length = 24 := by rw [H9.out.2.2.2.1]; decide
  have hrd := read_one H9.out.2.2.2.2.1 hok hnm (by omega) (by omega) (by rw [hDl]; omega)
  rw [hDl] at hrd
  have HRD := hid hrd
  have HDL := hid hDl
  clear hrd hDl
  go_wp2_with (
    go_at_call 15
    refine HRD.out.mono ?_
    rintro e w10 ⟨Y2, rfl, hO2, hc10, hY2, hk10⟩
    obtain ⟨hx0, hx1, hOY, hD, ho9, hb9⟩ := H9.out
    have hXd : X ≠ w.heap.size := by
      intro e
      have := ho9.disk.cells.1
      rw [← e, hx0] at this
      cases this
    have hYd : Y ≠ w.heap.size := hp_ne hOY ho9.disk (by simp)
    have y1 : w10.cell? ⟨X, 1, none⟩ = some (.slice (some ⟨Y, 0, none⟩) 24 24) := hk10.cell hx1 (by simpa using hXd)
    have y2 : w10.cell? ⟨Y, 4, none⟩ = some (.int .u8 7) := by
      have h := hp_kept hOY hk10 (by simpa using hYd)
      rw [cell_of_row w10 Y 4 _ _ _ h]
      rfl
    have ez : D = [5, 5, 5, 5, 0, 0, 0, 0, 0, 0, 0, 0, 0, 0, 0, 0, 7, 7, 7, 7, 7, 7, 7, 7] := by rw [hD]; decide
    have hO3 := hO2
    rw [ez] at hO3
    have z3 : w10.cell? ⟨Y2, 3, none⟩ = some (.int .u8 5) := by rw [cell_of_row w10 Y2 3 _ _ _ hO3]; rfl
    have z4 : w10.cell? ⟨Y2, 4, none⟩ = some (.int .u8 0) := by rw [cell_of_row w10 Y2 4 _ _ _ hO3]; rfl
    have z15 : w10.cell? ⟨Y2, 15, none⟩ = some (.int .u8 0) := by rw [cell_of_row w10 Y2 15 _ _ _ hO3]; rfl
    have z16 : w10.cell? ⟨Y2, 16, none⟩ = some (.int .u8 7) := by rw [cell_of_row w10 Y2 16 _ _ _ hO3]; rfl
    have hbF : Below w.heap.size w w10 := hb9.trans (hk10.below hb9.size (fun k hk e => by omega))
    have HBF := hid hbF
    clear hx0 hx1 hOY hD ho9 hb9 hO2 hO3 hY2 hk10 hXd hYd ez hbF)
  go_wp2_with (
    go_at_call 33
    refine (reads_any w.heap.size 1 w10 hc10).mono ?_
    rintro e w11 ⟨rfl, rfl⟩)
  go_ret
  exact ⟨rfl, HBF.out⟩

end Go.Proofs.YtlmompdfombgeaaGreat

namespace Go.Proofs.YtlmompdfombgeaaGreat
open Go.RowKit Go.MapKept

/-- The document's disk without a file. -/
def RefZ (w : World) (r : Nat) (room files : Int) : Prop := w.heap[r]? = some (.cells #[.int .i64 room, .int .i64 files, .int .i64 0, .slice none 0 0, .slice none 0 0, .slice none 0 0, .slice none 0 0, .slice none 0 0, .int .i64 0, .int .i64 0, .bool false] 58 (0, 0))

theorem RefZ.cells {w : World} {r : Nat} {room files : Int} (h : RefZ w r room files) : w.cell? ⟨r, 3, none⟩ = some (.slice none 0 0) ∧ w.cell? ⟨r, 4, none⟩ = some (.slice none 0 0) ∧ w.cell? ⟨r, 5, none⟩ = some (.slice none 0 0) ∧ w.cell? ⟨r, 8, none⟩ = some (.int .i64 0) ∧ w.cell? ⟨r, 9, none⟩ = some (.int .i64 0) ∧ w.cell? ⟨r, 10, none⟩ = some (.bool false) := by
  unfold RefZ at h
  refine ⟨?_, ?_, ?_, ?_, ?_, ?_⟩ <;> (rw [cell_of_row w r _ _ _ _ h]; rfl)

set_option maxRecDepth 100000 in
set_option maxHeartbeats 800000 in
theorem rnew_ok (room files : Int) (w : World) (h0 : 0 ≤ room) (h1 : room ≤ 4194304) (h2 : 0 ≤ files) (h3 : files ≤ 512) :
    Calls Tryz.prog 10 #[.int .i64 room, .int .i64 files] w fun x w' => x = .returned (.tuple #[.pointer (some ⟨w.heap.size, 0, none⟩), .int .i64 0]) ∧ RefZ w' w.heap.size room files ∧ Below w.heap.size w w' := by
  go_enter Tryz.func10, Tryz.ntmps10
  go_wp2
  go_ret2
  exact ⟨rfl, hp_new _ _, (Below.refl _ _).alloc (Nat.le_refl _) _⟩

set_option maxRecDepth 100000 in
set_option maxHeartbeats 800000 in
theorem names_zero (r : Nat) (w : World) (c4 : w.cell? ⟨r, 4, none⟩ = some (.slice none 0 0)) : Calls Tryz.prog 113 #[.pointer (some ⟨r, 0, none⟩), .int .i64 0] w fun x w' => x = .returned (.slice none 0 0) ∧ w' = w := by
  go_enter Tryz.func113, Tryz.ntmps113
  go_wp2
  refine wp_loop_rounds 1 ?_
  rw [rounds_succ]
  go_wp2
  go_ret
  exact ⟨rfl, rfl⟩

set_option maxRecDepth 100000 in
set_option maxHeartbeats 800000 in
theorem now_zero (r : Nat) (w : World) (room files : Int) (h : RefZ w r room files) : Calls Tryz.prog 100 #[.pointer (some ⟨r, 0, none⟩)] w fun x w' => x = .returned (.slice none 0 0) ∧ ∃ n, w' = w.drewN n := by
  obtain ⟨c3, c4, c5, c8, c9, c10⟩ := h.cells
  clear h
  go_enter Tryz.func100, Tryz.ntmps100
  go_wp2_with (go_at_call 113; refine (names_zero r _ c4).mono ?_; rintro e w' ⟨rfl, rfl⟩)
  go_ret
  exact ⟨rfl, 0, rfl⟩

set_option maxRecDepth 100000 in
set_option maxHeartbeats 800000 in
theorem rlist_zero (r : Nat) (w : World) (room files : Int) (h : RefZ w r room files) : Calls Tryz.prog 41 #[.pointer (some ⟨r, 0, none⟩)] w fun x w' => x = .returned (.tuple #[.slice none 0 0, .int .i64 0]) ∧ Below w.heap.size w w' := by
  obtain ⟨c3, c4, c5, c8, c9, c10⟩ := h.cells
  have H := hid h
  clear h
  go_enter Tryz.func41, Tryz.ntmps41
  go_wp2_with (go_at_call 100; refine (now_zero r _ room files H.out).mono ?_; rintro e w' ⟨rfl, n, rfl⟩)
  refine wp_loop_rounds 1 ?_
  rw [rounds_succ]
  go_wp2
  go_ret2
  exact ⟨rfl, below_drewN (Below.refl _ _) _⟩

set_option maxRecDepth 100000 in
set_option maxHeartbeats 800000 in
theorem rpending_zero (r : Nat) (w : World) (room files : Int) (h : RefZ w r room files) : Calls Tryz.prog 42 #[.pointer (some ⟨r, 0, none⟩)] w fun x w' => x = .returned (.tuple #[.int .i64 0, .slice none 0 0]) ∧ Below w.heap.size w w' := by
  obtain ⟨c3, c4, c5, c8, c9, c10⟩ := h.cells
  clear h
  go_enter Tryz.func42, Tryz.ntmps42
  go_wp2
  refine wp_loop_rounds 1 ?_
  rw [rounds_succ]
  go_wp2
  go_ret2
  exact ⟨rfl, Below.refl _ _⟩

set_option maxRecDepth 100000 in
set_option maxHeartbeats 800000 in
theorem rheld_zero (r : Nat) (w : World) (room files : Int) (h : RefZ w r room files) : Calls Tryz.prog 43 #[.pointer (some ⟨r, 0, none⟩)] w fun x w' => x = .returned (.tuple #[.int .i64 0, .int .i64 0]) ∧ Below w.heap.size w w' := by
  obtain ⟨c3, c4, c5, c8, c9, c10⟩ := h.cells
  clear h
  go_enter Tryz.func43, Tryz.ntmps43
  go_wp2
  refine wp_loop_rounds 1 ?_
  rw [rounds_succ]
  go_wp2
  go_quiet (fail)
  go_wp2
  go_ret2
  exact ⟨rfl, below_drewN (Below.refl _ _) _⟩

set_option maxRecDepth 100000 in
set_option maxHeartbeats 800000 in
theorem rfiles_zero (r : Nat) (b : Bool) (w : World) : Calls Tryz.prog 102 #[.pointer (some ⟨r, 0, none⟩), .slice none 0 0, .bool b] w fun x w' => x = .returned (.slice none 0 0) ∧ w' = w := by
  go_enter Tryz.func102, Tryz.ntmps102
  go_wp2
  refine wp_loop_rounds 1 ?_
  rw [rounds_succ]
  go_wp2
  go_ret
  exact ⟨rfl, rfl⟩

set_option maxRecDepth 100000 in
set_option maxHeartbeats 800000 in
theorem rFiles_zero (r : Nat) (w : World) (room files : Int) (h : RefZ w r room files) : Calls Tryz.prog 46 #[.pointer (some ⟨r, 0, none⟩)] w fun x w' => x = .returned (.slice none 0 0) ∧ Below w.heap.size w w' := by
  have H := hid h
  clear h
  go_enter Tryz.func46, Tryz.ntmps46
  go_wp2_with (first
    | (go_at_call 100; refine (now_zero r _ room files H.out).mono ?_; rintro e w' ⟨rfl, n, rfl⟩)
    | (go_at_call 102; refine (rfiles_zero r _ _).mono ?_; rintro e w' ⟨rfl, rfl⟩))
  go_ret
  exact ⟨rfl, below_drewN (Below.refl _ _) _⟩

set_option maxRecDepth 100000 in
set_option maxHeartbeats 800000 in
theorem rSafe_zero (r : Nat) (w : World) (room files : Int) (h : RefZ w r room files) : Calls Tryz.prog 47 #[.pointer (some ⟨r, 0, none⟩)] w fun x w' => x = .returned (.slice none 0 0) ∧ Below w.heap.size w w' := by
  obtain ⟨c3, c4, c5, c8, c9, c10⟩ := h.cells
  clear h
  go_enter Tryz.func47, Tryz.ntmps47
  go_wp2_with (first
    | (go_at_call 102; refine (rfiles_zero r _ _).mono ?_; rintro e w' ⟨rfl, rfl⟩))
  go_ret
  exact ⟨rfl, Below.refl _ _⟩

set_option maxRecDepth 100000 in
theorem nil_texts (w : World) : Calls Tryz.prog 44 #[.slice none 0 0, .slice none 0 0] w fun x w' => x = .returned (.bool true) ∧ w' = w := by
  go_enter Tryz.func44, Tryz.ntmps44
  go_wp2
  refine wp_loop_rounds 1 ?_
  rw [rounds_succ]
  go_wp2
  go_ret
  exact ⟨rfl, rfl⟩

set_option maxRecDepth 100000 in
theorem nil_ints (w : World) : Calls Tryz.prog 45 #[.slice none 0 0, .slice none 0 0] w fun x w' => x = .returned (.bool true) ∧ w' = w := by
  go_enter Tryz.func45, Tryz.ntmps45
  go_wp2
  refine wp_loop_rounds 1 ?_
  rw [rounds_succ]
  go_wp2
  go_ret
  exact ⟨rfl, rfl⟩

set_option maxRecDepth 100000 in
theorem nil_files (w : World) : Calls Tryz.prog 39 #[.slice none 0 0, .slice none 0 0] w fun x w' => x = .returned (.bool true) ∧ w' = w := by
  go_enter Tryz.func39, Tryz.ntmps39
  go_wp2
  refine wp_loop_rounds 1 ?_
  rw [rounds_succ]
  go_wp2
  go_ret
  exact ⟨rfl, rfl⟩

section
variable {B : Nat} {w : World} {d L Nb Fb : Nat} {room limit : Int} {st rd : Int} {cL cN cF : Nat}

set_option maxRecDepth 100000 in
set_option maxHeartbeats 800000 in
theorem list_zero (h : Zero B w d L Nb Fb room limit st rd cL cN cF) : Calls Tryz.prog 16 #[.pointer (some ⟨d, 0, none⟩)] w fun x w' => x = .returned (.tuple #[.slice none 0 0, .int .i64 0]) ∧ Below w.heap.size w w' := by
  obtain ⟨c0, c1, c2, c3, c4, c5, c6, c7, c8, c9, c10, c11⟩ := h.disk.cells
  have H := hid h
  clear h
  go_enter Tryz.func16, Tryz.ntmps16
  go_wp2_with (first
    | (go_at_call 69
       refine (find_plain d w c7).mono ?_
       rintro e w1 ⟨rfl, hb1⟩
       have a4 := (hb1.cell (World.block_lt_of_cell? _ _ c4)).trans c4
       have HB1 := hid hb1
       clear hb1)
    | (go_at_call 72
       refine (sorted_zero Nb cN w1 (H.out.below HB1.out).hN).mono ?_
       rintro e w2 ⟨rfl, hb2⟩
       have HB2 := hid hb2
       clear hb2))
  go_ret2
  exact ⟨rfl, HB1.out.trans (HB2.out.mono HB1.out.size)⟩

set_option maxRecDepth 100000 in
set_option maxHeartbeats 800000 in
theorem pending_zero (h : Zero B w d L Nb Fb room limit st rd cL cN cF) : Calls Tryz.prog 17 #[.pointer (some ⟨d, 0, none⟩)] w fun x w' => x = .returned (.tuple #[.int .i64 0, .slice none 0 0]) ∧ Below w.heap.size w w' := by
  obtain ⟨c0, c1, c2, c3, c4, c5, c6, c7, c8, c9, c10, c11⟩ := h.disk.cells
  have H := hid h
  clear h
  go_enter Tryz.func17, Tryz.ntmps17
  go_wp2_with (
    go_at_call 73
    refine (making_zero d L cL w c2 H.out.hL).mono ?_
    rintro e w1 ⟨rfl, hb1⟩
    have a6 := (hb1.cell (World.block_lt_of_cell? _ _ c6)).trans c6
    have HB1 := hid hb1
    clear hb1)
  refine wp_loop_rounds 1 ?_
  rw [rounds_succ]
  go_wp2
  go_ret2
  exact ⟨rfl, HB1.out⟩

set_option maxRecDepth 100000 in
set_option maxHeartbeats 800000 in
theorem held_zero (h : Zero B w d L Nb Fb room limit st rd cL cN cF) : Calls Tryz.prog 18 #[.pointer (some ⟨d, 0, none⟩)] w fun x w' => x = .returned (.tuple #[.int .i64 0, .int .i64 0]) ∧ Below w.heap.size w w' := by
  obtain ⟨c0, c1, c2, c3, c4, c5, c6, c7, c8, c9, c10, c11⟩ := h.disk.cells
  have H := hid h
  clear h
  go_enter Tryz.func18, Tryz.ntmps18
  go_wp2_with (
    go_at_call 74
    refine (held_none L cL w H.out.hL).mono ?_
    rintro e w1 ⟨rfl, hb1⟩
    have HB1 := hid hb1
    clear hb1)
  go_ret2
  exact ⟨rfl, HB1.out⟩

set_option maxRecDepth 100000 in
set_option maxHeartbeats 800000 in
theorem files_zero (h : Zero B w d L Nb Fb room limit st rd cL cN cF) : Calls Tryz.prog 29 #[.pointer (some ⟨d, 0, none⟩)] w fun x w' => x = .returned (.slice none 0 0) ∧ Below w.heap.size w w' := by
  have hmf : ∀ (fn : Fn) (first cap : Array Value) (w : World), (Instr.makeFunc fn first cap).run Tryz.prog w = .ok (.func fn first cap) w := fun _ _ _ _ => rfl
  obtain ⟨c0, c1, c2, c3, c4, c5, c6, c7, c8, c9, c10, c11⟩ := h.disk.cells
  have hdl := hp_lt h.disk
  have H := hid h
  clear h
  go_enter Tryz.func29, Tryz.ntmps29
  go_wp2_with (
    go_at_call 96
    refine (told_zero Nb cN 98 _ _ (hp_alloc H.out.hN _)).mono ?_
    rintro e w1 ⟨rfl, hb1⟩
    have HB1 := hid hb1
    clear hb1)
  go_ret
  exact ⟨rfl, ((Below.refl _ w).alloc (Nat.le_refl _) _).trans (HB1.out.mono (by simp))⟩

set_option maxRecDepth 100000 in
set_option maxHeartbeats 800000 in
theorem safe_zero (h : Zero B w d L Nb Fb room limit st rd cL cN cF) : Calls Tryz.prog 30 #[.pointer (some ⟨d, 0, none⟩)] w fun x w' => x = .returned (.slice none 0 0) ∧ Below w.heap.size w w' := by
  have hmf : ∀ (fn : Fn) (first cap : Array Value) (w : World), (Instr.makeFunc fn first cap).run Tryz.prog w = .ok (.func fn first cap) w := fun _ _ _ _ => rfl
  obtain ⟨c0, c1, c2, c3, c4, c5, c6, c7, c8, c9, c10, c11⟩ := h.disk.cells
  have hdl := hp_lt h.disk
  have H := hid h
  clear h
  go_enter Tryz.func30, Tryz.ntmps30
  go_wp2_with (
    go_at_call 96
    refine (told_zero Fb cF 99 _ _ (hp_alloc H.out.hF _)).mono ?_
    rintro e w1 ⟨rfl, hb1⟩
    have HB1 := hid hb1
    clear hb1)
  go_ret
  exact ⟨rfl, ((Below.refl _ w).alloc (Nat.le_refl _) _).trans (HB1.out.mono (by simp))⟩

end
end Go.Proofs.YtlmompdfombgeaaGreat

namespace Go.Proofs.YtlmompdfombgeaaGreat
open Go.RowKit Go.MapKept

theorem RefZ.below {w w' : World} {r : Nat} {room files : Int} (h : RefZ w r room files) (hk : Below w.heap.size w w') : RefZ w' r room files := hp_below h hk (hp_lt h)

set_option maxRecDepth 100000 in
theorem off_any (d : Nat) (b : Bool) (w : World) (h : w.cell? ⟨d, 7, none⟩ = some (.bool b)) : Calls Tryz.prog 31 #[.pointer (some ⟨d, 0, none⟩)] w fun x w' => x = .returned (.bool b) ∧ w' = w := by
  go_enter Tryz.func31, Tryz.ntmps31
  go_wp2
  go_ret
  exact ⟨rfl, rfl⟩

set_option maxRecDepth 100000 in
theorem roff_any (d : Nat) (b : Bool) (w : World) (h : w.cell? ⟨d, 10, none⟩ = some (.bool b)) : Calls Tryz.prog 48 #[.pointer (some ⟨d, 0, none⟩)] w fun x w' => x = .returned (.bool b) ∧ w' = w := by
  go_enter Tryz.func48, Tryz.ntmps48
  go_wp2
  go_ret
  exact ⟨rfl, rfl⟩

set_option maxRecDepth 100000 in
theorem rstrokes_any (d : Nat) (n : Int) (w : World) (h : w.cell? ⟨d, 8, none⟩ = some (.int .i64 n)) : Calls Tryz.prog 49 #[.pointer (some ⟨d, 0, none⟩)] w fun x w' => x = .returned (.int .i64 n) ∧ w' = w := by
  go_enter Tryz.func49, Tryz.ntmps49
  go_wp2
  go_ret
  exact ⟨rfl, rfl⟩

set_option maxRecDepth 100000 in
theorem rreads_any (d : Nat) (n : Int) (w : World) (h : w.cell? ⟨d, 9, none⟩ = some (.int .i64 n)) : Calls Tryz.prog 50 #[.pointer (some ⟨d, 0, none⟩)] w fun x w' => x = .returned (.int .i64 n) ∧ w' = w := by
  go_enter Tryz.func50, Tryz.ntmps50
  go_wp2
  go_ret
  exact ⟨rfl, rfl⟩

set_option maxRecDepth 100000 in
set_option maxHeartbeats 3200000 in
theorem alike_zero {B : Nat} {w : World} {d L Nb Fb r : Nat} {room limit : Int} (h : Zero B w d L Nb Fb room limit 0 0 0 0 0) (hr : RefZ w r room limit) : Calls Tryz.prog 11 #[.pointer (some ⟨d, 0, none⟩), .pointer (some ⟨r, 0, none⟩)] w fun x w' => x = .returned (.bool true) ∧ Below w.heap.size w w' := by
  have H := hid (And.intro h hr)
  clear h hr
  go_enter Tryz.func11, Tryz.ntmps11
  go_wp2_with (
    go_at_call 16
    refine (list_zero H.out.1).mono ?_
    rintro e w1 ⟨rfl, hb⟩
    have H1 := hid (And.intro (H.out.1.below hb) (And.intro (H.out.2.below hb) hb))
    clear hb)
  go_wp2_with (
    go_at_call 41
    refine (rlist_zero r _ room limit H1.out.2.1).mono ?_
    rintro e w2 ⟨rfl, hb⟩
    have H2 := hid (And.intro (H1.out.1.below hb) (And.intro (H1.out.2.1.below hb) (H1.out.2.2.trans (hb.mono H1.out.2.2.size))))
    clear hb)
  go_wp2_with (
    go_at_call 17
    refine (pending_zero H2.out.1).mono ?_
    rintro e w3 ⟨rfl, hb⟩
    have H3 := hid (And.intro (H2.out.1.below hb) (And.intro (H2.out.2.1.below hb) (H2.out.2.2.trans (hb.mono H2.out.2.2.size))))
    clear hb)
  go_wp2_with (
    go_at_call 42
    refine (rpending_zero r _ room limit H3.out.2.1).mono ?_
    rintro e w4 ⟨rfl, hb⟩
    have H4 := hid (And.intro (H3.out.1.below hb) (And.intro (H3.out.2.1.below hb) (H3.out.2.2.trans (hb.mono H3.out.2.2.size))))
    clear hb)
  go_wp2_with (
    go_at_call 18
    refine (held_zero H4.out.1).mono ?_
    rintro e w5 ⟨rfl, hb⟩
    have H5 := hid (And.intro (H4.out.1.below hb) (And.intro (H4.out.2.1.below hb) (H4.out.2.2.trans (hb.mono H4.out.2.2.size))))
    clear hb)
  go_wp2_with (
    go_at_call 43
    refine (rheld_zero r _ room limit H5.out.2.1).mono ?_
    rintro e w6 ⟨rfl, hb⟩
    have H6 := hid (And.intro (H5.out.1.below hb) (And.intro (H5.out.2.1.below hb) (H5.out.2.2.trans (hb.mono H5.out.2.2.size))))
    clear hb)
  go_wp2_with (first
    | (go_at_call 44; refine (nil_texts _).mono ?_; rintro e w' ⟨rfl, rfl⟩)
    | (go_at_call 45; refine (nil_ints _).mono ?_; rintro e w' ⟨rfl, rfl⟩))
  go_wp2_with (
    go_at_call 29
    refine (files_zero H6.out.1).mono ?_
    rintro e w7 ⟨rfl, hb⟩
    have H7 := hid (And.intro (H6.out.1.below hb) (And.intro (H6.out.2.1.below hb) (H6.out.2.2.trans (hb.mono H6.out.2.2.size))))
    clear hb)
  go_wp2_with (
    go_at_call 46
    refine (rFiles_zero r _ room limit H7.out.2.1).mono ?_
    rintro e w8 ⟨rfl, hb⟩
    have H8 := hid (And.intro (H7.out.1.below hb) (And.intro (H7.out.2.1.below hb) (H7.out.2.2.trans (hb.mono H7.out.2.2.size))))
    clear hb)
  go_wp2_with (first
    | (go_at_call 39; refine (nil_files w8).mono ?_; rintro e wa ⟨rfl, ea⟩; subst ea))
  go_wp2_with (
    go_at_call 30
    refine (safe_zero H8.out.1).mono ?_
    rintro e w9 ⟨rfl, hb⟩
    have H9 := hid (And.intro (H8.out.1.below hb) (And.intro (H8.out.2.1.below hb) (H8.out.2.2.trans (hb.mono H8.out.2.2.size))))
    clear hb)
  go_wp2_with (
    go_at_call 47
    refine (rSafe_zero r _ room limit H9.out.2.1).mono ?_
    rintro e wz ⟨rfl, hb⟩
    have HA := hid (And.intro (H9.out.1.below hb) (And.intro (H9.out.2.1.below hb) (H9.out.2.2.trans (hb.mono H9.out.2.2.size))))
    obtain ⟨-, -, -, -, -, -, -, x7, x8, -, x10, -⟩ := HA.out.1.disk.cells
    obtain ⟨-, -, -, y8, y9, y10⟩ := HA.out.2.1.cells
    have HBz := hid HA.out.2.2
    clear hb HA)
  go_wp2_with (first
    | (go_at_call 39; refine (nil_files wz).mono ?_; rintro e wb ⟨rfl, eb⟩; subst eb)
    | (go_at_call 31; refine (off_any d false _ x7).mono ?_; rintro e wb ⟨rfl, eb⟩; subst eb)
    | (go_at_call 48; refine (roff_any r false _ y10).mono ?_; rintro e wb ⟨rfl, eb⟩; subst eb)
    | (go_at_call 32; refine (strokes_any d 0 _ x8).mono ?_; rintro e wb ⟨rfl, eb⟩; subst eb)
    | (go_at_call 49; refine (rstrokes_any r 0 _ y8).mono ?_; rintro e wb ⟨rfl, eb⟩; subst eb)
    | (go_at_call 33; refine (reads_any d 0 _ x10).mono ?_; rintro e wb ⟨rfl, eb⟩; subst eb)
    | (go_at_call 50; refine (rreads_any r 0 _ y9).mono ?_; rintro e wb ⟨rfl, eb⟩; subst eb))
  go_ret
  exact ⟨rfl, HBz.out⟩

set_option maxRecDepth 100000 in
set_option maxHeartbeats 1600000 in
theorem new_no (room files : Int) (w : World) (h : ¬ (0 ≤ room ∧ room ≤ 4194304 ∧ 0 ≤ files ∧ files ≤ 512)) :
    Calls Tryz.prog 9 #[.int .i64 room, .int .i64 files] w fun x w' => x = .returned (.tuple #[.pointer none, .int .i64 1]) ∧ w' = w := by
  by_cases a : room < 0
  · go_enter Tryz.func9, Tryz.ntmps9
    go_wp2
    go_ret2
    exact ⟨rfl, rfl⟩
  · by_cases b : 4194304 < room
    · go_enter Tryz.func9, Tryz.ntmps9
      go_wp2
      go_ret2
      exact ⟨rfl, rfl⟩
    · by_cases c : files < 0
      · go_enter Tryz.func9, Tryz.ntmps9
        go_wp2
        go_ret2
        exact ⟨rfl, rfl⟩
      · have d : 512 < files := by omega
        go_enter Tryz.func9, Tryz.ntmps9
        go_wp2
        go_ret2
        exact ⟨rfl, rfl⟩

set_option maxRecDepth 100000 in
set_option maxHeartbeats 1600000 in
theorem rnew_no (room files : Int) (w : World) (h : ¬ (0 ≤ room ∧ room ≤ 4194304 ∧ 0 ≤ files ∧ files ≤ 512)) :
    Calls Tryz.prog 10 #[.int .i64 room, .int .i64 files] w fun x w' => x = .returned (.tuple #[.pointer none, .int .i64 1]) ∧ w' = w := by
  by_cases a : room < 0
  · go_enter Tryz.func10, Tryz.ntmps10
    go_wp2
    go_ret2
    exact ⟨rfl, rfl⟩
  · by_cases b : 4194304 < room
    · go_enter Tryz.func10, Tryz.ntmps10
      go_wp2
      go_ret2
      exact ⟨rfl, rfl⟩
    · by_cases c : files < 0
      · go_enter Tryz.func10, Tryz.ntmps10
        go_wp2
        go_ret2
        exact ⟨rfl, rfl⟩
      · have d : 512 < files := by omega
        go_enter Tryz.func10, Tryz.ntmps10
        go_wp2
        go_ret2
        exact ⟨rfl, rfl⟩

set_option maxRecDepth 100000 in
set_option maxHeartbeats 3200000 in
theorem news_any (room files : Int) (w : World) : Calls Tryz.prog 3 #[.int .i64 room, .int .i64 files] w fun x w' => x = .returned (.bool true) ∧ Below w.heap.size w w' := by
  by_cases h : 0 ≤ room ∧ room ≤ 4194304 ∧ 0 ≤ files ∧ files ≤ 512
  · obtain ⟨h0, h1, h2, h3⟩ := h
    go_enter Tryz.func3, Tryz.ntmps3
    go_wp2_with (
      go_at_call 9
      refine (new_ok room files w h0 h1 h2 h3).mono ?_
      rintro e w1 ⟨rfl, hz1, hb1⟩
      have H1 := hid (And.intro hz1 hb1)
      clear hz1 hb1)
    go_wp2_with (
      go_at_call 10
      refine (rnew_ok room files w1 h0 h1 h2 h3).mono ?_
      rintro e w2 ⟨rfl, hr2, hb2⟩
      have H2 := hid (And.intro (H1.out.1.below hb2) (And.intro hr2 (H1.out.2.trans (hb2.mono H1.out.2.size))))
      clear hr2 hb2)
    go_wp2_with (first
      | (go_at_call 11
         refine (alike_zero H2.out.1 H2.out.2.1).mono ?_
         rintro e w3 ⟨rfl, hb3⟩
         have H3 := hid (H2.out.2.2.trans (hb3.mono H2.out.2.2.size))
         clear hb3)
      | (go_at_call 12
         refine (known_any w3).mono ?_
         rintro e w4 ⟨rfl, hb4⟩
         have H4 := hid (H3.out.trans (hb4.mono H3.out.size))
         clear hb4))
    go_ret
    exact ⟨rfl, H4.out⟩
  · have HN := hid h
    clear h
    go_enter Tryz.func3, Tryz.ntmps3
    go_wp2_with (first
      | (go_at_call 9; refine (new_no room files w HN.out).mono ?_; rintro e w1 ⟨rfl, e1⟩; subst e1)
      | (go_at_call 10; refine (rnew_no room files w1 HN.out).mono ?_; rintro e w2 ⟨rfl, e2⟩; subst e2)
      | (go_at_call 12
         refine (known_any _).mono ?_
         rintro e w4 ⟨rfl, hb4⟩
         have H4 := hid hb4
         clear hb4))
    go_ret
    exact ⟨rfl, H4.out⟩

end Go.Proofs.YtlmompdfombgeaaGreat
