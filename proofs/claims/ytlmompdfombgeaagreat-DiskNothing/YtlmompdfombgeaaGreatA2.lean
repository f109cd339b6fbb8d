import Derived.Test.YtlmompdfombgeaaGreatA1
namespace Go.Proofs.YtlmompdfombgeaaGreat
open Go.RowKit Go.MapKept

theorem RefZ.below {w w' : World} {r : Nat} {room files : Int} (h : RefZ w r room files) (hk : Below w.heap.size w w') : RefZ w' r room files := hp_below h hk (hp_lt h)

set_option maxRecDepth 100000 in
theorem off_any (d : Nat) (b : Bool) (w : World) (h : w.cell? ⟨d, 7, none⟩ = some (.bool b)) : Calls Tryz.prog 31 #[.pointer (some ⟨d, 0, none⟩)] w fun x w' => x = .returned (.bool b) ∧ w' = w := by
  go_enter Tryz.func31, Tryz.ntmps31
  go_wp2
  go_ret
  exact ⟨rfl, rfl⟩

set_option maxRecDepth 100000 in
theorem roff_any (d : Nat) (b : Bool) (w : World) (h : w.cell? ⟨d, 10, none⟩ = some (.bool b)) : Calls Tryz.prog 48 #[.pointer (some ⟨d, 0, none⟩)] w fun x w' => x = .returned (.bool b) ∧ w' = w := by
  go_enter Tryz.func48, Tryz.ntmps48
  go_wp2
  go_ret
  exact ⟨rfl, rfl⟩

set_option maxRecDepth 100000 in
theorem rstrokes_any (d : Nat) (n : Int) (w : World) (h : w.cell? ⟨d, 8, none⟩ = some (.int .i64 n)) : Calls Tryz.prog 49 #[.pointer (some ⟨d, 0, none⟩)] w fun x w' => x = .returned (.int .i64 n) ∧ w' = w := by
  go_enter Tryz.func49, Tryz.ntmps49
  go_wp2
  go_ret
  exact ⟨rfl, rfl⟩

set_option maxRecDepth 100000 in
theorem rreads_any (d : Nat) (n : Int) (w : World) (h : w.cell? ⟨d, 9, none⟩ = some (.int .i64 n)) : Calls Tryz.prog 50 #[.pointer (some ⟨d, 0, none⟩)] w fun x w' => x = .returned (.int .i64 n) ∧ w' = w := by
  go_enter Tryz.func50, Tryz.ntmps50
  go_wp2
  go_ret
  exact ⟨rfl, rfl⟩

set_option maxRecDepth 100000 in
set_option maxHeartbeats 3200000 in
theorem alike_zero {B : Nat} {w : World} {d L Nb Fb r : Nat} {room limit : Int} (h : Zero B w d L Nb Fb room limit 0 0 0 0 0) (hr : RefZ w r room limit) : Calls Tryz.prog 11 #[.pointer (some ⟨d, 0, none⟩), .pointer (some ⟨r, 0, none⟩)] w fun x w' => x = .returned (.bool true) ∧ Below w.heap.size w w' := by
  have H := hid (And.intro h hr)
  clear h hr
  go_enter Tryz.func11, Tryz.ntmps11
  go_wp2_with (
    go_at_call 16
    refine (list_zero H.out.1).mono ?_
    rintro e w1 ⟨rfl, hb⟩
    have H1 := hid (And.intro (H.out.1.below hb) (And.intro (H.out.2.below hb) hb))
    clear hb)
  go_wp2_with (
    go_at_call 41
    refine (rlist_zero r _ room limit H1.out.2.1).mono ?_
    rintro e w2 ⟨rfl, hb⟩
    have H2 := hid (And.intro (H1.out.1.below hb) (And.intro (H1.out.2.1.below hb) (H1.out.2.2.trans (hb.mono H1.out.2.2.size))))
    clear hb)
  go_wp2_with (
    go_at_call 17
    refine (pending_zero H2.out.1).mono ?_
    rintro e w3 ⟨rfl, hb⟩
    have H3 := hid (And.intro (H2.out.1.below hb) (And.intro (H2.out.2.1.below hb) (H2.out.2.2.trans (hb.mono H2.out.2.2.size))))
    clear hb)
  go_wp2_with (
    go_at_call 42
    refine (rpending_zero r _ room limit H3.out.2.1).mono ?_
    rintro e w4 ⟨rfl, hb⟩
    have H4 := hid (And.intro (H3.out.1.below hb) (And.intro (H3.out.2.1.below hb) (H3.out.2.2.trans (hb.mono H3.out.2.2.size))))
    clear hb)
  go_wp2_with (
    go_at_call 18
    refine (held_zero H4.out.1).mono ?_
    rintro e w5 ⟨rfl, hb⟩
    have H5 := hid (And.intro (H4.out.1.below hb) (And.intro (H4.out.2.1.below hb) (H4.out.2.2.trans (hb.mono H4.out.2.2.size))))
    clear hb)
  go_wp2_with (
    go_at_call 43
    refine (rheld_zero r _ room limit H5.out.2.1).mono ?_
    rintro e w6 ⟨rfl, hb⟩
    have H6 := hid (And.intro (H5.out.1.below hb) (And.intro (H5.out.2.1.below hb) (H5.out.2.2.trans (hb.mono H5.out.2.2.size))))
    clear hb)
  go_wp2_with (first
    | (go_at_call 44; refine (nil_texts _).mono ?_; rintro e w' ⟨rfl, rfl⟩)
    | (go_at_call 45; refine (nil_ints _).mono ?_; rintro e w' ⟨rfl, rfl⟩))
  go_wp2_with (
    go_at_call 29
    refine (files_zero H6.out.1).mono ?_
    rintro e w7 ⟨rfl, hb⟩
    have H7 := hid (And.intro (H6.out.1.below hb) (And.intro (H6.out.2.1.below hb) (H6.out.2.2.trans (hb.mono H6.out.2.2.size))))
    clear hb)
  go_wp2_with (
    go_at_call 46
    refine (rFiles_zero r _ room limit H7.out.2.1).mono ?_
    rintro e w8 ⟨rfl, hb⟩
    have H8 := hid (And.intro (H7.out.1.below hb) (And.intro (H7.out.2.1.below hb) (H7.out.2.2.trans (hb.mono H7.out.2.2.size))))
    clear hb)
  go_wp2_with (first
    | (go_at_call 39; refine (nil_files w8).mono ?_; rintro e wa ⟨rfl, ea⟩; subst ea))
  go_wp2_with (
    go_at_call 30
    refine (safe_zero H8.out.1).mono ?_
    rintro e w9 ⟨rfl, hb⟩
    have H9 := hid (And.intro (H8.out.1.below hb) (And.intro (H8.out.2.1.below hb) (H8.out.2.2.trans (hb.mono H8.out.2.2.size))))
    clear hb)
  go_wp2_with (
    go_at_call 47
    refine (rSafe_zero r _ room limit H9.out.2.1).mono ?_
    rintro e wz ⟨rfl, hb⟩
    have HA := hid (And.intro (H9.out.1.below hb) (And.intro (H9.out.2.1.below hb) (H9.out.2.2.trans (hb.mono H9.out.2.2.size))))
    obtain ⟨-, -, -, -, -, -, -, x7, x8, -, x10, -⟩ := HA.out.1.disk.cells
    obtain ⟨-, -, -, y8, y9, y10⟩ := HA.out.2.1.cells
    have HBz := hid HA.out.2.2
    clear hb HA)
  go_wp2_with (first
    | (go_at_call 39; refine (nil_files wz).mono ?_; rintro e wb ⟨rfl, eb⟩; subst eb)
    | (go_at_call 31; refine (off_any d false _ x7).mono ?_; rintro e wb ⟨rfl, eb⟩; subst eb)
    | (go_at_call 48; refine (roff_any r false _ y10).mono ?_; rintro e wb ⟨rfl, eb⟩; subst eb)
    | (go_at_call 32; refine (strokes_any d 0 _ x8).mono ?_; rintro e wb ⟨rfl, eb⟩; subst eb)
    | (go_at_call 49; refine (rstrokes_any r 0 _ y8).mono ?_; rintro e wb ⟨rfl, eb⟩; subst eb)
    | (go_at_call 33; refine (reads_any d 0 _ x10).mono ?_; rintro e wb ⟨rfl, eb⟩; subst eb)
    | (go_at_call 50; refine (rreads_any r 0 _ y9).mono ?_; rintro e wb ⟨rfl, eb⟩; subst eb))
  go_ret
  exact ⟨rfl, HBz.out⟩

set_option maxRecDepth 100000 in
set_option maxHeartbeats 1600000 in
theorem new_no (room files : Int) (w : World) (h : ¬ (0 ≤ room ∧ room ≤ 4194304 ∧ 0 ≤ files ∧ files ≤ 512)) :
    Calls Tryz.prog 9 #[.int .i64 room, .int .i64 files] w fun x w' => x = .returned (.tuple #[.pointer none, .int .i64 1]) ∧ w' = w := by
  by_cases a : room < 0
  · go_enter Tryz.func9, Tryz.ntmps9
    go_wp2
    go_ret2
    exact ⟨rfl, rfl⟩
  · by_cases b : 4194304 < room
    · go_enter Tryz.func9, Tryz.ntmps9
      go_wp2
      go_ret2
      exact ⟨rfl, rfl⟩
    · by_cases c : files < 0
      · go_enter Tryz.func9, Tryz.ntmps9
        go_wp2
        go_ret2
        exact ⟨rfl, rfl⟩
      · have d : 512 < files := by omega
        go_enter Tryz.func9, Tryz.ntmps9
        go_wp2
        go_ret2
        exact ⟨rfl, rfl⟩

set_option maxRecDepth 100000 in
set_option maxHeartbeats 1600000 in
theorem rnew_no (room files : Int) (w : World) (h : ¬ (0 ≤ room ∧ room ≤ 4194304 ∧ 0 ≤ files ∧ files ≤ 512)) :
    Calls Tryz.prog 10 #[.int .i64 room, .int .i64 files] w fun x w' => x = .returned (.tuple #[.pointer none, .int .i64 1]) ∧ w' = w := by
  by_cases a : room < 0
  · go_enter Tryz.func10, Tryz.ntmps10
    go_wp2
    go_ret2
    exact ⟨rfl, rfl⟩
  · by_cases b : 4194304 < room
    · go_enter Tryz.func10, Tryz.ntmps10
      go_wp2
      go_ret2
      exact ⟨rfl, rfl⟩
    · by_cases c : files < 0
      · go_enter Tryz.func10, Tryz.ntmps10
        go_wp2
        go_ret2
        exact ⟨rfl, rfl⟩
      · have d : 512 < files := by omega
        go_enter Tryz.func10, Tryz.ntmps10
        go_wp2
        go_ret2
        exact ⟨rfl, rfl⟩

set_option maxRecDepth 100000 in
set_option maxHeartbeats 3200000 in
theorem news_any (room files : Int) (w : World) : Calls Tryz.prog 3 #[.int .i64 room, .int .i64 files] w fun x w' => x = .returned (.bool true) ∧ Below w.heap.size w w' := by
  by_cases h : 0 ≤ room ∧ room ≤ 4194304 ∧ 0 ≤ files ∧ files ≤ 512
  · obtain ⟨h0, h1, h2, h3⟩ := h
    go_enter Tryz.func3, Tryz.ntmps3
    go_wp2_with (
      go_at_call 9
      refine (new_ok room files w h0 h1 h2 h3).mono ?_
      rintro e w1 ⟨rfl, hz1, hb1⟩
      have H1 := hid (And.intro hz1 hb1)
      clear hz1 hb1)
    go_wp2_with (
      go_at_call 10
      refine (rnew_ok room files w1 h0 h1 h2 h3).mono ?_
      rintro e w2 ⟨rfl, hr2, hb2⟩
      have H2 := hid (And.intro (H1.out.1.below hb2) (And.intro hr2 (H1.out.2.trans (hb2.mono H1.out.2.size))))
      clear hr2 hb2)
    go_wp2_with (first
      | (go_at_call 11
         refine (alike_zero H2.out.1 H2.out.2.1).mono ?_
         rintro e w3 ⟨rfl, hb3⟩
         have H3 := hid (H2.out.2.2.trans (hb3.mono H2.out.2.2.size))
         clear hb3)
      | (go_at_call 12
         refine (known_any w3).mono ?_
         rintro e w4 ⟨rfl, hb4⟩
         have H4 := hid (H3.out.trans (hb4.mono H3.out.size))
         clear hb4))
    go_ret
    exact ⟨rfl, H4.out⟩
  · have HN := hid h
    clear h
    go_enter Tryz.func3, Tryz.ntmps3
    go_wp2_with (first
      | (go_at_call 9; refine (new_no room files w HN.out).mono ?_; rintro e w1 ⟨rfl, e1⟩; subst e1)
      | (go_at_call 10; refine (rnew_no room files w1 HN.out).mono ?_; rintro e w2 ⟨rfl, e2⟩; subst e2)
      | (go_at_call 12
         refine (known_any _).mono ?_
         rintro e w4 ⟨rfl, hb4⟩
         have H4 := hid hb4
         clear hb4))
    go_ret
    exact ⟨rfl, H4.out⟩

end Go.Proofs.YtlmompdfombgeaaGreat
