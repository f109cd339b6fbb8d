import Derived.Test.YtlmompdfombgeaaGreatZb
import Derived.Test.YtlmompdfombgeaaGreatZr
namespace Go.Proofs.YtlmompdfombgeaaGreat
open Go.RowKit Go.MapKept

/-- List's error. -/
def liE (off : Bool) : Int := if off then 11 else 0

section
variable {w : World} {d : Nat} {off : Bool} {cs : Int} {fs : List (Int × Int)}

set_option maxRecDepth 100000 in
set_option maxHeartbeats 800000 in
theorem list_z (h : ZD w d off cs fs) : Calls Tryz.prog 16 #[.pointer (some ⟨d, 0, none⟩)] w fun x w' => x = .returned (.tuple #[.slice none 0 0, .int .i64 (liE off)]) ∧ Below w.heap.size w w' := by
  obtain ⟨L, k1, k2, hd, hL, hk⟩ := h
  obtain ⟨c0, c1, c2, c3, c4, c5, c6, c7, c8, c9, c10, c11⟩ := hd.cells
  clear hd hL hk
  cases off
  · show Calls Tryz.prog 16 #[.pointer (some ⟨d, 0, none⟩)] w fun x w' => x = .returned (.tuple #[.slice none 0 0, .int .i64 0]) ∧ Below w.heap.size w w'
    go_enter Tryz.func16, Tryz.ntmps16
    go_wp2_with (first
      | (go_at_call 69
         refine (find_plain d w c7).mono ?_
         rintro e w1 ⟨rfl, hb1⟩
         have a4 := (hb1.cell (World.block_lt_of_cell? _ _ c4)).trans c4
         have HB1 := hid hb1
         clear hb1)
      | (go_at_call 72
         refine (sorted_nil w1).mono ?_
         rintro e w2 ⟨rfl, hb2⟩
         have HB2 := hid hb2
         clear hb2))
    go_ret2
    exact ⟨rfl, HB1.out.trans (HB2.out.mono HB1.out.size)⟩
  · show Calls Tryz.prog 16 #[.pointer (some ⟨d, 0, none⟩)] w fun x w' => x = .returned (.tuple #[.slice none 0 0, .int .i64 11]) ∧ Below w.heap.size w w'
    go_enter Tryz.func16, Tryz.ntmps16
    go_wp2_with (first
      | (go_at_call 69
         refine (find_off d _ _ _ w c7 rfl rfl rfl).mono ?_
         rintro e w1 ⟨rfl, hb1⟩
         have HB1 := hid hb1
         clear hb1))
    go_ret2
    exact ⟨rfl, HB1.out⟩

set_option maxRecDepth 100000 in
set_option maxHeartbeats 800000 in
theorem pending_z (h : ZD w d off cs fs) : Calls Tryz.prog 17 #[.pointer (some ⟨d, 0, none⟩)] w fun x w' => x = .returned (.tuple #[.int .i64 0, .slice none 0 0]) ∧ Below w.heap.size w w' := by
  obtain ⟨L, k1, k2, hd, hL, hk⟩ := h
  obtain ⟨c0, c1, c2, c3, c4, c5, c6, c7, c8, c9, c10, c11⟩ := hd.cells
  have H := hid hL
  clear hd hL hk
  go_enter Tryz.func17, Tryz.ntmps17
  go_wp2_with (
    go_at_call 73
    refine (making_nk d L w c2 H.out).mono ?_
    rintro e w1 ⟨rfl, hb1⟩
    have a6 := (hb1.cell (World.block_lt_of_cell? _ _ c6)).trans c6
    have HB1 := hid hb1
    clear hb1)
  refine wp_loop_rounds 1 ?_
  rw [rounds_succ]
  go_wp2
  go_ret2
  exact ⟨rfl, HB1.out⟩

set_option maxRecDepth 100000 in
set_option maxHeartbeats 800000 in
theorem held_z (h : ZD w d off cs fs) : Calls Tryz.prog 18 #[.pointer (some ⟨d, 0, none⟩)] w fun x w' => x = .returned (.tuple #[.int .i64 0, .int .i64 0]) ∧ Below w.heap.size w w' := by
  obtain ⟨L, k1, k2, hd, hL, hk⟩ := h
  obtain ⟨c0, c1, c2, c3, c4, c5, c6, c7, c8, c9, c10, c11⟩ := hd.cells
  have H := hid hL
  clear hd hL hk
  go_enter Tryz.func18, Tryz.ntmps18
  go_wp2_with (
    go_at_call 74
    refine (held_nk L w H.out).mono ?_
    rintro e w1 ⟨rfl, hb1⟩
    have HB1 := hid hb1
    clear hb1)
  go_ret2
  exact ⟨rfl, HB1.out⟩

set_option maxRecDepth 100000 in
set_option maxHeartbeats 800000 in
theorem files_z (h : ZD w d off cs fs) : Calls Tryz.prog 29 #[.pointer (some ⟨d, 0, none⟩)] w fun x w' => x = .returned (.slice none 0 0) ∧ Below w.heap.size w w' := by
  have hmf : ∀ (fn : Fn) (first cap : Array Value) (w : World), (Instr.makeFunc fn first cap).run Tryz.prog w = .ok (.func fn first cap) w := fun _ _ _ _ => rfl
  obtain ⟨L, k1, k2, hd, hL, hk⟩ := h
  obtain ⟨c0, c1, c2, c3, c4, c5, c6, c7, c8, c9, c10, c11⟩ := hd.cells
  have hdl := hp_lt hd
  clear hd hL hk
  go_enter Tryz.func29, Tryz.ntmps29
  go_wp2_with (
    go_at_call 96
    refine (told_nil 98 _ _).mono ?_
    rintro e w1 ⟨rfl, hb1⟩
    have HB1 := hid hb1
    clear hb1)
  go_ret
  exact ⟨rfl, ((Below.refl _ w).alloc (Nat.le_refl _) _).trans (HB1.out.mono (by simp))⟩

set_option maxRecDepth 100000 in
set_option maxHeartbeats 800000 in
theorem safe_z (h : ZD w d off cs fs) : Calls Tryz.prog 30 #[.pointer (some ⟨d, 0, none⟩)] w fun x w' => x = .returned (.slice none 0 0) ∧ Below w.heap.size w w' := by
  have hmf : ∀ (fn : Fn) (first cap : Array Value) (w : World), (Instr.makeFunc fn first cap).run Tryz.prog w = .ok (.func fn first cap) w := fun _ _ _ _ => rfl
  obtain ⟨L, k1, k2, hd, hL, hk⟩ := h
  obtain ⟨c0, c1, c2, c3, c4, c5, c6, c7, c8, c9, c10, c11⟩ := hd.cells
  have hdl := hp_lt hd
  clear hd hL hk
  go_enter Tryz.func30, Tryz.ntmps30
  go_wp2_with (
    go_at_call 96
    refine (told_nil 99 _ _).mono ?_
    rintro e w1 ⟨rfl, hb1⟩
    have HB1 := hid hb1
    clear hb1)
  go_ret
  exact ⟨rfl, ((Below.refl _ w).alloc (Nat.le_refl _) _).trans (HB1.out.mono (by simp))⟩

end

section
variable {w : World} {r : Nat} {sv rv : Value} {cs : Int} {off : Bool}

set_option maxRecDepth 100000 in
set_option maxHeartbeats 800000 in
theorem rlist_z (h : RB w r sv rv cs off) : Calls Tryz.prog 41 #[.pointer (some ⟨r, 0, none⟩)] w fun x w' => x = .returned (.tuple #[.slice none 0 0, .int .i64 (liE off)]) ∧ Below w.heap.size w w' := by
  obtain ⟨c0, c1, c2, c3, c4, c5, c6, c7, c8, c9, c10⟩ := h.cells
  have H := hid h
  clear h
  cases off
  · show Calls Tryz.prog 41 #[.pointer (some ⟨r, 0, none⟩)] w fun x w' => x = .returned (.tuple #[.slice none 0 0, .int .i64 0]) ∧ Below w.heap.size w w'
    go_enter Tryz.func41, Tryz.ntmps41
    go_wp2_with (go_at_call 100; refine (now_z (w := w) H.out).mono ?_; rintro e w' ⟨rfl, n, rfl⟩)
    refine wp_loop_rounds 1 ?_
    rw [rounds_succ]
    go_wp2
    go_ret2
    exact ⟨rfl, below_drewN (Below.refl _ _) _⟩
  · show Calls Tryz.prog 41 #[.pointer (some ⟨r, 0, none⟩)] w fun x w' => x = .returned (.tuple #[.slice none 0 0, .int .i64 11]) ∧ Below w.heap.size w w'
    go_enter Tryz.func41, Tryz.ntmps41
    go_wp2
    go_ret2
    exact ⟨rfl, Below.refl _ _⟩

set_option maxRecDepth 100000 in
set_option maxHeartbeats 800000 in
theorem rpending_z (h : RB w r sv rv cs off) : Calls Tryz.prog 42 #[.pointer (some ⟨r, 0, none⟩)] w fun x w' => x = .returned (.tuple #[.int .i64 0, .slice none 0 0]) ∧ Below w.heap.size w w' := by
  obtain ⟨c0, c1, c2, c3, c4, c5, c6, c7, c8, c9, c10⟩ := h.cells
  clear h
  go_enter Tryz.func42, Tryz.ntmps42
  go_wp2
  refine wp_loop_rounds 1 ?_
  rw [rounds_succ]
  go_wp2
  go_ret2
  exact ⟨rfl, Below.refl _ _⟩

set_option maxRecDepth 100000 in
set_option maxHeartbeats 800000 in
theorem rheld_z (h : RB w r sv rv cs off) : Calls Tryz.prog 43 #[.pointer (some ⟨r, 0, none⟩)] w fun x w' => x = .returned (.tuple #[.int .i64 0, .int .i64 0]) ∧ Below w.heap.size w w' := by
  obtain ⟨c0, c1, c2, c3, c4, c5, c6, c7, c8, c9, c10⟩ := h.cells
  clear h
  go_enter Tryz.func43, Tryz.ntmps43
  go_wp2
  refine wp_loop_rounds 1 ?_
  rw [rounds_succ]
  go_wp2
  go_quiet (fail)
  go_wp2
  go_ret2
  exact ⟨rfl, below_drewN (Below.refl _ _) _⟩

set_option maxRecDepth 100000 in
set_option maxHeartbeats 800000 in
theorem rFiles_z (h : RB w r sv rv cs off) : Calls Tryz.prog 46 #[.pointer (some ⟨r, 0, none⟩)] w fun x w' => x = .returned (.slice none 0 0) ∧ Below w.heap.size w w' := by
  have H := hid h
  clear h
  go_enter Tryz.func46, Tryz.ntmps46
  go_wp2_with (first
    | (go_at_call 100; refine (now_z (w := w) H.out).mono ?_; rintro e w' ⟨rfl, n, rfl⟩)
    | (go_at_call 102; refine (rfiles_zero r _ _).mono ?_; rintro e w' ⟨rfl, rfl⟩))
  go_ret
  exact ⟨rfl, below_drewN (Below.refl _ _) _⟩

set_option maxRecDepth 100000 in
set_option maxHeartbeats 800000 in
theorem rSafe_z (h : RB w r sv rv cs off) : Calls Tryz.prog 47 #[.pointer (some ⟨r, 0, none⟩)] w fun x w' => x = .returned (.slice none 0 0) ∧ Below w.heap.size w w' := by
  obtain ⟨c0, c1, c2, c3, c4, c5, c6, c7, c8, c9, c10⟩ := h.cells
  clear h
  go_enter Tryz.func47, Tryz.ntmps47
  go_wp2_with (first
    | (go_at_call 102; refine (rfiles_zero r _ _).mono ?_; rintro e w' ⟨rfl, rfl⟩))
  go_ret
  exact ⟨rfl, Below.refl _ _⟩

theorem RB.below {w' : World} (h : RB w r sv rv cs off) (hk : Below w.heap.size w w') : RB w' r sv rv cs off := hp_below h hk (hp_lt h)
end

set_option maxRecDepth 100000 in
set_option maxHeartbeats 3200000 in
theorem alike_z {w : World} {d r : Nat} {off : Bool} {cs : Int} {fs gs : List (Int × Int)} (h : ZD w d off cs fs) (hr0 : ZR w r off cs gs) : Calls Tryz.prog 11 #[.pointer (some ⟨d, 0, none⟩), .pointer (some ⟨r, 0, none⟩)] w fun x w' => x = .returned (.bool true) ∧ Below w.heap.size w w' := by
  obtain ⟨sv, rv, hr, -, -⟩ := hr0
  have hr : RB w r sv rv cs off := hr
  have H := hid (And.intro h hr)
  clear h hr
  go_enter Tryz.func11, Tryz.ntmps11
  go_wp2_with (
    go_at_call 16
    refine (list_z H.out.1).mono ?_
    rintro e w1 ⟨rfl, hb⟩
    have H1 := hid (And.intro (H.out.1.below hb) (And.intro (H.out.2.below hb) hb))
    clear hb)
  go_wp2_with (
    go_at_call 41
    refine (rlist_z H1.out.2.1).mono ?_
    rintro e w2 ⟨rfl, hb⟩
    have H2 := hid (And.intro (H1.out.1.below hb) (And.intro (H1.out.2.1.below hb) (H1.out.2.2.trans (hb.mono H1.out.2.2.size))))
    clear hb)
  go_wp2_with (
    go_at_call 17
    refine (pending_z H2.out.1).mono ?_
    rintro e w3 ⟨rfl, hb⟩
    have H3 := hid (And.intro (H2.out.1.below hb) (And.intro (H2.out.2.1.below hb) (H2.out.2.2.trans (hb.mono H2.out.2.2.size))))
    clear hb)
  go_wp2_with (
    go_at_call 42
    refine (rpending_z H3.out.2.1).mono ?_
    rintro e w4 ⟨rfl, hb⟩
    have H4 := hid (And.intro (H3.out.1.below hb) (And.intro (H3.out.2.1.below hb) (H3.out.2.2.trans (hb.mono H3.out.2.2.size))))
    clear hb)
  go_wp2_with (
    go_at_call 18
    refine (held_z H4.out.1).mono ?_
    rintro e w5 ⟨rfl, hb⟩
    have H5 := hid (And.intro (H4.out.1.below hb) (And.intro (H4.out.2.1.below hb) (H4.out.2.2.trans (hb.mono H4.out.2.2.size))))
    clear hb)
  go_wp2_with (
    go_at_call 43
    refine (rheld_z H5.out.2.1).mono ?_
    rintro e w6 ⟨rfl, hb⟩
    have H6 := hid (And.intro (H5.out.1.below hb) (And.intro (H5.out.2.1.below hb) (H5.out.2.2.trans (hb.mono H5.out.2.2.size))))
    clear hb)
  go_wp2_with (first
    | (go_at_call 44; refine (nil_texts _).mono ?_; rintro e w' ⟨rfl, rfl⟩)
    | (go_at_call 45; refine (nil_ints _).mono ?_; rintro e w' ⟨rfl, rfl⟩))
  go_wp2_with (
    go_at_call 29
    refine (files_z H6.out.1).mono ?_
    rintro e w7 ⟨rfl, hb⟩
    have H7 := hid (And.intro (H6.out.1.below hb) (And.intro (H6.out.2.1.below hb) (H6.out.2.2.trans (hb.mono H6.out.2.2.size))))
    clear hb)
  go_wp2_with (
    go_at_call 46
    refine (rFiles_z H7.out.2.1).mono ?_
    rintro e w8 ⟨rfl, hb⟩
    have H8 := hid (And.intro (H7.out.1.below hb) (And.intro (H7.out.2.1.below hb) (H7.out.2.2.trans (hb.mono H7.out.2.2.size))))
    clear hb)
  go_wp2_with (first
    | (go_at_call 39; refine (nil_files w8).mono ?_; rintro e wa ⟨rfl, ea⟩; subst ea))
  go_wp2_with (
    go_at_call 30
    refine (safe_z H8.out.1).mono ?_
    rintro e w9 ⟨rfl, hb⟩
    have H9 := hid (And.intro (H8.out.1.below hb) (And.intro (H8.out.2.1.below hb) (H8.out.2.2.trans (hb.mono H8.out.2.2.size))))
    clear hb)
  go_wp2_with (
    go_at_call 47
    refine (rSafe_z H9.out.2.1).mono ?_
    rintro e wz ⟨rfl, hb⟩
    have HA := hid (And.intro (H9.out.1.below hb) (And.intro (H9.out.2.1.below hb) (H9.out.2.2.trans (hb.mono H9.out.2.2.size))))
    have hz1 := HA.out.1
    obtain ⟨Lz, k1z, k2z, hdz, -, -⟩ := hz1
    obtain ⟨-, -, -, -, -, -, -, x7, x8, -, x10, -⟩ := hdz.cells
    obtain ⟨-, -, -, -, -, -, -, -, y8, y9, y10⟩ := HA.out.2.1.cells
    have HBz := hid HA.out.2.2
    clear hb HA hdz)
  go_wp2_with (first
    | (go_at_call 39; refine (nil_files wz).mono ?_; rintro e wb ⟨rfl, eb⟩; subst eb)
    | (go_at_call 31; refine (off_any d off _ x7).mono ?_; rintro e wb ⟨rfl, eb⟩; subst eb)
    | (go_at_call 48; refine (roff_any r off _ y10).mono ?_; rintro e wb ⟨rfl, eb⟩; subst eb)
    | (go_at_call 32; refine (strokes_any d cs _ x8).mono ?_; rintro e wb ⟨rfl, eb⟩; subst eb)
    | (go_at_call 49; refine (rstrokes_any r cs _ y8).mono ?_; rintro e wb ⟨rfl, eb⟩; subst eb)
    | (go_at_call 33; refine (reads_any d 0 _ x10).mono ?_; rintro e wb ⟨rfl, eb⟩; subst eb)
    | (go_at_call 50; refine (rreads_any r 0 _ y9).mono ?_; rintro e wb ⟨rfl, eb⟩; subst eb))
  go_ret
  exact ⟨rfl, HBz.out⟩

end Go.Proofs.YtlmompdfombgeaaGreat
