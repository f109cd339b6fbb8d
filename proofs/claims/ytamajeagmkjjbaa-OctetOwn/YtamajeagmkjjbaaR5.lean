import Derived.Test.YtamajeagmkjjbaaR4
import Derived.Test.YtamajeagmkjjbaaW1
namespace Go.Proofs.Ytamajeagmkjjbaa
open Go.RowKit

theorem takeZ_bd (f n : Int) (bs : List Int) (at' : Nat) (e : Int) (ho : Oct bs) :
    0 ≤ (takeZ f n bs at' e).1.1 ∧ (takeZ f n bs at' e).1.1 < 18446744073709551616 ∧ (f ≠ 0 → f ≠ 2 → (takeZ f n bs at' e).1.1 < 9223372036854775808) ∧ (f = 0 → n = 1 → (takeZ f n bs at' e).1.1 < 256) := by
  have ho2 : Oct (bs.drop at') := fun x hx => ho x (List.mem_of_mem_drop hx)
  have hb : f = 0 → n = 1 → (leadZ f (bs.drop at') n).2.2 = 0 → (leadZ f (bs.drop at') n).1 < 256 := by
    intro h1 h2 h3
    subst h1; subst h2
    unfold leadZ fixZ at h3 ⊢
    rw [if_pos rfl, if_neg (by omega)] at h3 ⊢
    by_cases h4 : ((bs.drop at').length : Int) < 1
    · rw [if_pos h4] at h3; simp at h3
    · rw [if_neg h4]
      have := leZ_bd ((bs.drop at').take 1) (fun x hx => ho2 x (List.mem_of_mem_take hx))
      have hl : ((bs.drop at').take 1).length = 1 := by rw [List.length_take]; omega
      rw [hl] at this
      exact this.2
  unfold takeZ
  split
  · split
    · rename_i h1 h2
      have hk := leadZ_ok f (bs.drop at') n ho2 h2
      split
      · split
        · exact ⟨by dsimp only; omega, by dsimp only; omega, fun _ _ => by dsimp only; omega, fun _ _ => by dsimp only; omega⟩
        · split
          · exact ⟨by dsimp only; omega, by dsimp only; omega, fun _ _ => by dsimp only; omega, fun _ _ => by dsimp only; omega⟩
          · exact ⟨hk.2.2.1, hk.2.2.2.1, hk.2.2.2.2, fun a b => hb a b h2⟩
      · exact ⟨hk.2.2.1, hk.2.2.2.1, hk.2.2.2.2, fun a b => hb a b h2⟩
    · exact ⟨by dsimp only; omega, by dsimp only; omega, fun _ _ => by dsimp only; omega, fun _ _ => by dsimp only; omega⟩
  · exact ⟨by dsimp only; omega, by dsimp only; omega, fun _ _ => by dsimp only; omega, fun _ _ => by dsimp only; omega⟩

theorem Rd.oct {w : World} {p : Nat} {g : Option Nat} {bs : List Int} {at' : Nat} {e : Int} (h : Rd w p g bs at' e) : Oct bs := by
  obtain ⟨_, _, _, _, _, h, _⟩ := h; exact h

/-- 'take' with its answer named. -/
theorem take_named (p : Nat) (g : Option Nat) (bs : List Int) (at' : Nat) (e f n : Int) (w : World) (h : Rd w p g bs at' e) (hn0 : -9223372036854775808 ≤ n) (hn1 : n < 9223372036854775808) :
    ∃ u s a2 e2, u = (takeZ f n bs at' e).1.1 ∧ s = mkStr (takeZ f n bs at' e).1.2 ∧ a2 = (takeZ f n bs at' e).2.1 ∧ e2 = (takeZ f n bs at' e).2.2 ∧
    Calls Try.prog 53 #[.pointer (some ⟨p, 0, none⟩), .int .i64 f, .int .i64 n] w fun x w' => RdStep p g w w' bs a2 e2 ∧ x = .returned (.tuple #[.int .u64 u, .string s]) :=
  ⟨_, _, _, _, rfl, rfl, rfl, rfl, take_any p g bs at' e f n w h hn0 hn1⟩

set_option maxRecDepth 100000 in
set_option maxHeartbeats 800000 in
theorem rbyte_any (p : Nat) (g : Option Nat) (bs : List Int) (at' : Nat) (e : Int) (w : World) (h : Rd w p g bs at' e) :
    Calls Try.prog 36 #[.pointer (some ⟨p, 0, none⟩)] w fun x w' => RdStep p g w w' bs (takeZ 0 1 bs at' e).2.1 (takeZ 0 1 bs at' e).2.2 ∧ x = .returned (.int .u8 (takeZ 0 1 bs at' e).1.1) := by
  have hb := takeZ_bd 0 1 bs at' e h.oct
  obtain ⟨u, s, a2, e2, h1, h2, h3, h4, hc⟩ := take_named p g bs at' e 0 1 w h (by omega) (by omega)
  rw [← h1, ← h3, ← h4]
  rw [← h1] at hb
  have HC := hid hc
  obtain ⟨b0, _, _, b1⟩ := hb
  have b2 := b1 rfl rfl
  clear hc h1 h2 h3 h4 b1 h
  go_enter Try.func36, Try.ntmps36
  go_wp2_with (go_at_call 53; refine HC.out.mono ?_; rintro x w' ⟨hw1, rfl⟩; have HW := hid hw1; clear hw1)
  go_ret
  refine ⟨?_, rfl⟩
  exact Hid.out (by assumption)

set_option maxRecDepth 100000 in
set_option maxHeartbeats 800000 in
theorem rfixed_any (p : Nat) (g : Option Nat) (bs : List Int) (at' : Nat) (e n : Int) (w : World) (h : Rd w p g bs at' e) (hn0 : -9223372036854775808 ≤ n) (hn1 : n < 9223372036854775808) :
    Calls Try.prog 35 #[.pointer (some ⟨p, 0, none⟩), .int .i64 n] w fun x w' => RdStep p g w w' bs (takeZ 0 n bs at' e).2.1 (takeZ 0 n bs at' e).2.2 ∧ x = .returned (.int .u64 (takeZ 0 n bs at' e).1.1) := by
  obtain ⟨u, s, a2, e2, h1, h2, h3, h4, hc⟩ := take_named p g bs at' e 0 n w h hn0 hn1
  rw [← h1, ← h3, ← h4]
  have HC := hid hc
  clear hc h1 h2 h3 h4 h
  go_enter Try.func35, Try.ntmps35
  go_wp2_with (go_at_call 53; refine HC.out.mono ?_; rintro x w' ⟨hw1, rfl⟩; have HW := hid hw1; clear hw1)
  go_ret
  refine ⟨?_, rfl⟩
  exact Hid.out (by assumption)

set_option maxRecDepth 100000 in
set_option maxHeartbeats 800000 in
theorem rnum_any (p : Nat) (g : Option Nat) (bs : List Int) (at' : Nat) (e : Int) (w : World) (h : Rd w p g bs at' e) :
    Calls Try.prog 32 #[.pointer (some ⟨p, 0, none⟩)] w fun x w' => RdStep p g w w' bs (takeZ 1 0 bs at' e).2.1 (takeZ 1 0 bs at' e).2.2 ∧ x = .returned (.int .i64 (takeZ 1 0 bs at' e).1.1) := by
  have hb := takeZ_bd 1 0 bs at' e h.oct
  obtain ⟨u, s, a2, e2, h1, h2, h3, h4, hc⟩ := take_named p g bs at' e 1 0 w h (by omega) (by omega)
  rw [← h1, ← h3, ← h4]
  rw [← h1] at hb
  have HC := hid hc
  obtain ⟨b0, _, b1, _⟩ := hb
  have b2 := b1 (by omega) (by omega)
  clear hc h1 h2 h3 h4 b1 h
  go_enter Try.func32, Try.ntmps32
  go_wp2_with (go_at_call 53; refine HC.out.mono ?_; rintro x w' ⟨hw1, rfl⟩; have HW := hid hw1; clear hw1)
  go_ret
  refine ⟨?_, rfl⟩
  exact Hid.out (by assumption)

set_option maxRecDepth 100000 in
set_option maxHeartbeats 800000 in
theorem rint_any (p : Nat) (g : Option Nat) (bs : List Int) (at' : Nat) (e : Int) (w : World) (h : Rd w p g bs at' e) :
    Calls Try.prog 33 #[.pointer (some ⟨p, 0, none⟩)] w fun x w' => RdStep p g w w' bs (takeZ 2 0 bs at' e).2.1 (takeZ 2 0 bs at' e).2.2 ∧ x = .returned (.int .i64 (unfoldZ (takeZ 2 0 bs at' e).1.1)) := by
  have hb := takeZ_bd 2 0 bs at' e h.oct
  obtain ⟨u, s, a2, e2, h1, h2, h3, h4, hc⟩ := take_named p g bs at' e 2 0 w h (by omega) (by omega)
  rw [← h1, ← h3, ← h4]
  rw [← h1] at hb
  have HC := hid hc
  obtain ⟨b0, b1, _, _⟩ := hb
  clear hc h1 h2 h3 h4 h
  go_enter Try.func33, Try.ntmps33
  go_wp2_with (first | (go_at_call 53; refine HC.out.mono ?_; rintro x w' ⟨hw1, rfl⟩; have HW := hid hw1; clear hw1) | (go_at_call 54; refine (unfold_any u _ b0 b1).mono ?_; rintro x w2 ⟨rfl, hw2⟩; subst hw2))
  go_ret
  refine ⟨?_, rfl⟩
  exact Hid.out (by assumption)

set_option maxRecDepth 100000 in
set_option maxHeartbeats 800000 in
theorem rtext_any (p : Nat) (g : Option Nat) (bs : List Int) (at' : Nat) (e n : Int) (w : World) (h : Rd w p g bs at' e) (hn0 : -9223372036854775808 ≤ n) (hn1 : n < 9223372036854775808) :
    Calls Try.prog 34 #[.pointer (some ⟨p, 0, none⟩), .int .i64 n] w fun x w' => RdStep p g w w' bs (takeZ 3 n bs at' e).2.1 (takeZ 3 n bs at' e).2.2 ∧ x = .returned (.string (mkStr (takeZ 3 n bs at' e).1.2)) := by
  obtain ⟨u, s, a2, e2, h1, h2, h3, h4, hc⟩ := take_named p g bs at' e 3 n w h hn0 hn1
  rw [← h2, ← h3, ← h4]
  have HC := hid hc
  clear hc h1 h2 h3 h4 h
  go_enter Try.func34, Try.ntmps34
  go_wp2_with (go_at_call 53; refine HC.out.mono ?_; rintro x w' ⟨hw1, rfl⟩; have HW := hid hw1; clear hw1)
  go_ret
  refine ⟨?_, rfl⟩
  exact Hid.out (by assumption)

set_option maxRecDepth 100000 in
set_option maxHeartbeats 800000 in
theorem left_any (p : Nat) (g : Option Nat) (bs : List Int) (at' : Nat) (e : Int) (w : World) (h : Rd w p g bs at' e) :
    Calls Try.prog 26 #[.pointer (some ⟨p, 0, none⟩)] w fun x w' => (∃ nq, w' = w.drewN nq) ∧ x = .returned (.int .i64 ((bs.length : Int) - at')) := by
  obtain ⟨v, h1, h2, h3, h4, h5, h6, h7⟩ := h
  obtain ⟨c0, c1, c2⟩ := cell_of_three h1
  have hlen := fun wx => sl_len h3 wx
  clear h1 h3 h2 h4 h5
  go_enter Try.func26, Try.ntmps26
  go_wp2
  go_quiet (fail)
  go_wp2
  go_ret
  exact ⟨⟨nq, rfl⟩, rfl⟩

set_option maxRecDepth 100000 in
set_option maxHeartbeats 800000 in
theorem rerr_any (p : Nat) (g : Option Nat) (bs : List Int) (at' : Nat) (e : Int) (w : World) (h : Rd w p g bs at' e) :
    Calls Try.prog 25 #[.pointer (some ⟨p, 0, none⟩)] w fun x w' => (∃ nq, w' = w.drewN nq) ∧ x = .returned (.tuple #[.int .i64 e, .int .i64 (if e = 0 then 0 else (at' : Int))]) := by
  obtain ⟨v, h1, h2, h3, h4, h5, h6, h7⟩ := h
  obtain ⟨c0, c1, c2⟩ := cell_of_three h1
  clear h1 h3 h2 h4 h5
  by_cases he : e = 0
  · subst he
    rw [if_pos rfl]
    go_enter Try.func25, Try.ntmps25
    go_wp2
    go_ret2
    exact ⟨⟨0, rfl⟩, rfl⟩
  · rw [if_neg he]
    have he2 : (e == 0) = false := by simpa using he
    clear he
    go_enter Try.func25, Try.ntmps25
    go_wp2
    go_quiet (fail)
    go_wp2
    go_ret2
    exact ⟨⟨nq, rfl⟩, rfl⟩

theorem Rd.drewN {w : World} {p : Nat} {g : Option Nat} {bs : List Int} {at' : Nat} {e : Int} (h : Rd w p g bs at' e) (n : Nat) : Rd (w.drewN n) p g bs at' e := by
  obtain ⟨v, h1, h2, h3, h4⟩ := h
  exact ⟨v, by rw [heap_drewN]; exact h1, h2, h3.drewN n, h4⟩

theorem drewN_drewN (w : World) (n m : Nat) : (w.drewN n).drewN m = w.drewN (n + m) := by
  simp [World.drewN, Nat.add_assoc]

/-- What End answers. -/
def endZ (len : Nat) (at' : Nat) (e : Int) : Int := if e = 0 then (if at' < len then 3 else 0) else e

set_option maxRecDepth 100000 in
set_option maxHeartbeats 800000 in
theorem end_any (p : Nat) (g : Option Nat) (bs : List Int) (at' : Nat) (e : Int) (w : World) (h : Rd w p g bs at' e) :
    Calls Try.prog 21 #[.pointer (some ⟨p, 0, none⟩)] w fun x w' => (∃ nq, w' = w.drewN nq) ∧ x = .returned (.int .i64 (endZ bs.length at' e)) := by
  have hat : at' ≤ bs.length := by obtain ⟨_, _, _, _, _, _, h, _⟩ := h; exact h
  by_cases he : e = 0
  · subst he
    by_cases hl : at' < bs.length
    · have hr : endZ bs.length at' 0 = 3 := by unfold endZ; rw [if_pos rfl, if_pos hl]
      rw [hr]
      clear hr
      have HE := hid (rerr_any p g bs at' 0 w h)
      have HL := hid (fun n => left_any p g bs at' 0 _ (h.drewN n))
      clear h
      go_enter Try.func21, Try.ntmps21
      go_wp2_with fail
      refine HE.out.mono ?_
      rintro x w' ⟨⟨nq, rfl⟩, rfl⟩
      go_wp2_with fail
      refine (HL.out nq).mono ?_
      rintro x w' ⟨⟨nq2, rfl⟩, rfl⟩
      rw [drewN_drewN]
      go_wp2
      go_ret
      exact ⟨⟨_, rfl⟩, rfl⟩
    · have hr : endZ bs.length at' 0 = 0 := by unfold endZ; rw [if_pos rfl, if_neg hl]
      rw [hr]
      clear hr
      have HE := hid (rerr_any p g bs at' 0 w h)
      have HL := hid (fun n => left_any p g bs at' 0 _ (h.drewN n))
      clear h
      go_enter Try.func21, Try.ntmps21
      go_wp2_with fail
      refine HE.out.mono ?_
      rintro x w' ⟨⟨nq, rfl⟩, rfl⟩
      go_wp2_with fail
      refine (HL.out nq).mono ?_
      rintro x w' ⟨⟨nq2, rfl⟩, rfl⟩
      rw [drewN_drewN]
      go_wp2
      go_ret
      exact ⟨⟨_, rfl⟩, rfl⟩
  · have hr : endZ bs.length at' e = e := by unfold endZ; rw [if_neg he]
    rw [hr]
    clear hr
    have he2 : (e == 0) = false := by simpa using he
    have HE := hid (rerr_any p g bs at' e w h)
    clear h
    go_enter Try.func21, Try.ntmps21
    go_wp2_with fail
    refine HE.out.mono ?_
    rintro x w' ⟨⟨nq, rfl⟩, rfl⟩
    go_wp2
    go_ret
    exact ⟨⟨_, rfl⟩, rfl⟩

set_option maxRecDepth 100000 in
set_option maxHeartbeats 800000 in
theorem read_any (v : Value) (bs : List Int) (w : World) (h : Sl w v bs) (ho : Oct bs) (hl : bs.length ≤ 1000000000) :
    Calls Try.prog 16 #[v] w fun x w' => ∃ p, x = .returned (.pointer (some ⟨p, 0, none⟩)) ∧ w.heap.size < p ∧ Rd w' p (some w.heap.size) bs 0 0 ∧ Below w.heap.size w w' := by
  have HC := hid (clone_any v bs w h hl)
  go_enter Try.func16, Try.ntmps16
  go_wp2_with fail
  refine HC.out.mono ?_
  rintro x w1 ⟨rfl, hown, hb⟩
  have HO := hid hown
  have hlt : w.heap.size < w1.heap.size := (Array.getElem?_eq_some_iff.1 hown).1
  clear hown
  go_wp2
  go_ret
  refine ⟨w1.heap.size, rfl, hlt, ?_, hb.alloc (by omega) _⟩
  have hk : Kept (fun _ => False) w1 (w1.alloc (.cells #[.slice (some ⟨w.heap.size, 0, none⟩) bs.length bs.length, .int .i64 0, .int .i64 0] 57)) := (Kept.refl _ _).alloc _
  refine ⟨_, heap_alloc_new w1 _, rfl, ?_, ?_, ho, Nat.zero_le _, hl⟩
  · exact (sl_of_owns (HO.out.owns (B := 0) (Nat.zero_le _) (by unfold maxLen; omega))).kept hk (fun _ _ h => h)
  · simp; omega

end Go.Proofs.Ytamajeagmkjjbaa
