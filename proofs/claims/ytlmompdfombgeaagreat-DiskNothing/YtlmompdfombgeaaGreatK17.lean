import Derived.Test.YtlmompdfombgeaaGreatK14
import Derived.Test.YtlmompdfombgeaaGreatK16
namespace Go.Proofs.YtlmompdfombgeaaGreat
open Go.RowKit Go.MapKept

/-- The document's zero disk, its block. -/
def RB (w : World) (r : Nat) (sv rv : Value) (cs : Int) (off : Bool) : Prop := w.heap[r]? = some (.cells #[.int .i64 0, .int .i64 0, .int .i64 0, .slice none 0 0, .slice none 0 0, .slice none 0 0, sv, rv, .int .i64 cs, .int .i64 0, .bool off] 58 (0, 0))

theorem RB.cells {w : World} {r : Nat} {sv rv : Value} {cs : Int} {off : Bool} (h : RB w r sv rv cs off) : w.cell? ⟨r, 0, none⟩ = some (.int .i64 0) ∧ w.cell? ⟨r, 1, none⟩ = some (.int .i64 0) ∧ w.cell? ⟨r, 2, none⟩ = some (.int .i64 0) ∧ w.cell? ⟨r, 3, none⟩ = some (.slice none 0 0) ∧ w.cell? ⟨r, 4, none⟩ = some (.slice none 0 0) ∧ w.cell? ⟨r, 5, none⟩ = some (.slice none 0 0) ∧ w.cell? ⟨r, 6, none⟩ = some sv ∧ w.cell? ⟨r, 7, none⟩ = some rv ∧ w.cell? ⟨r, 8, none⟩ = some (.int .i64 cs) ∧ w.cell? ⟨r, 9, none⟩ = some (.int .i64 0) ∧ w.cell? ⟨r, 10, none⟩ = some (.bool off) := by
  unfold RB at h
  refine ⟨?_, ?_, ?_, ?_, ?_, ?_, ?_, ?_, ?_, ?_, ?_⟩ <;> (rw [cell_of_row w r _ _ _ _ h]; rfl)

theorem RB.free {w : World} {r : Nat} {sv rv : Value} {cs : Int} {off : Bool} (h : RB w r sv rv cs off) : ∀ o, w.frozen? ⟨r, o, none⟩ = false := fun _o => free_of_block h

set_option maxRecDepth 100000 in
set_option maxHeartbeats 1000000 in
theorem risName_any (s : ByteArray) (w : World) (hs : s.size ≤ maxLen) : Calls Tryz.prog 108 #[.string s] w fun x w' => x = .returned (.bool (nmOK s)) ∧ w' = w := by
  unfold maxLen at hs
  obtain ⟨r, hr⟩ : ∃ r, r = nmOK s := ⟨_, rfl⟩
  rw [← hr]
  have HR := hid hr
  clear hr
  go_enter Tryz.func108, Tryz.ntmps108
  go_wp2
  go_loop [3] (fun i => ∃ k : Nat, k ≤ s.size ∧ i = .int .i64 k ∧ Hid ((s.data.toList.take k).all (fun c => decide (33 ≤ c.toNat) && decide (c.toNat ≤ 126)) = true)) (fun i => s.size - (intOf i).toNat)
  case atStart => exact ⟨0, Nat.zero_le _, rfl, hid (by simp)⟩
  case round =>
    obtain ⟨k, hk, rfl, hall⟩ := hrel
    by_cases hlt : k < s.size
    · by_cases hgo : 33 ≤ s[k].toNat ∧ s[k].toNat ≤ 126
      · obtain ⟨g1, g2⟩ := hgo
        have HN := hid (show (s.data.toList.take (k + 1)).all (fun c => decide (33 ≤ c.toNat) && decide (c.toNat ≤ 126)) = true by rw [take_snocB s k hlt, List.all_append, hall.out]; simp [g1, g2])
        have j1 : ¬ ((s[k].toNat : Int) < 33) := by omega
        have j2 : ¬ (126 < (s[k].toNat : Int)) := by omega
        go_wp2
        go_round
        case rel => exact ⟨k + 1, by omega, by go_num, HN⟩
        case measure => simp [intOf]; omega
      · have Hr := hid (show nmOK s = false by
          have hm : s[k] ∈ s.data.toList := by
            have : s[k] ∈ s.data.toList.take (k + 1) := by rw [take_snocB s k hlt]; simp
            exact List.mem_of_mem_take this
          have hf : s.data.toList.all (fun c => decide (33 ≤ c.toNat) && decide (c.toNat ≤ 126)) = false := by
            rw [Bool.eq_false_iff]
            intro h
            have := List.all_eq_true.1 h _ hm
            simp at this
            exact hgo this
          simp [nmOK, hf])
        by_cases j1 : (s[k].toNat : Int) < 33
        · go_wp2
          go_ret
          exact ⟨by rw [HR.out, Hr.out]; rfl, rfl⟩
        · have j2 : 126 < (s[k].toNat : Int) := by omega
          go_wp2
          go_ret
          exact ⟨by rw [HR.out, Hr.out]; rfl, rfl⟩
    · have hq := hid (show nmOK s = (decide (1 ≤ s.size) && decide (s.size ≤ 40)) by
        have := hall.out
        rw [List.take_of_length_le (by simp; omega)] at this
        simp only [nmOK, this, Bool.and_true])
      by_cases h1 : (1 : Int) ≤ s.size
      · by_cases h2 : (s.size : Int) ≤ 40
        · have Hr := hid (show nmOK s = true by rw [hq.out]; simp; omega)
          go_wp2
          go_ret
          exact ⟨by rw [HR.out, Hr.out]; rfl, rfl⟩
        · have Hr := hid (show nmOK s = false by rw [hq.out]; simp; omega)
          go_wp2
          go_ret
          exact ⟨by rw [HR.out, Hr.out]; rfl, rfl⟩
      · have Hr := hid (show nmOK s = false by rw [hq.out]; simp; omega)
        go_wp2
        go_ret
        exact ⟨by rw [HR.out, Hr.out]; rfl, rfl⟩

set_option maxRecDepth 100000 in
theorem of_nil (nm : ByteArray) (w : World) : Calls Tryz.prog 127 #[.slice none 0 0, .string nm] w fun x w' => x = .returned (.int .i64 0) ∧ w' = w := by
  go_enter Tryz.func127, Tryz.ntmps127
  go_wp2
  refine wp_loop_rounds 1 ?_
  rw [rounds_succ]
  go_wp2
  go_ret
  exact ⟨rfl, rfl⟩

set_option maxRecDepth 100000 in
theorem without_nil (nm : ByteArray) (w : World) : Calls Tryz.prog 115 #[.slice none 0 0, .string nm] w fun x w' => x = .returned (.slice none 0 0) ∧ w' = w := by
  go_enter Tryz.func115, Tryz.ntmps115
  go_wp2
  refine wp_loop_rounds 1 ?_
  rw [rounds_succ]
  go_wp2
  go_ret
  exact ⟨rfl, rfl⟩

section
variable {w : World} {r : Nat} {sv rv : Value} {cs : Int} {off : Bool}

set_option maxRecDepth 100000 in
set_option maxHeartbeats 800000 in
theorem now_z (h : RB w r sv rv cs off) : Calls Tryz.prog 100 #[.pointer (some ⟨r, 0, none⟩)] w fun x w' => x = .returned (.slice none 0 0) ∧ ∃ n, w' = w.drewN n := by
  obtain ⟨c0, c1, c2, c3, c4, c5, c6, c7, c8, c9, c10⟩ := h.cells
  clear h
  go_enter Tryz.func100, Tryz.ntmps100
  go_wp2_with (go_at_call 113; refine (names_zero r _ c4).mono ?_; rintro e w' ⟨rfl, rfl⟩)
  go_ret
  exact ⟨rfl, 0, rfl⟩

set_option maxRecDepth 100000 in
set_option maxHeartbeats 800000 in
theorem known_z (h : RB w r sv rv cs off) (nm : ByteArray) (hs : nm.size ≤ maxLen) : Calls Tryz.prog 103 #[.pointer (some ⟨r, 0, none⟩), .string nm] w fun x w' => x = .returned (.tuple #[.int .i64 0, .int .i64 (kE off nm)]) ∧ Below w.heap.size w w' := by
  obtain ⟨c0, c1, c2, c3, c4, c5, c6, c7, c8, c9, c10⟩ := h.cells
  have H := hid h
  clear h
  cases off
  · cases hok : nmOK nm
    · have hk : kE false nm = 5 := by simp [kE, hok]
      rw [hk]
      clear hk
      go_enter Tryz.func103, Tryz.ntmps103
      go_wp2_with (go_at_call 108; refine (risName_any nm _ hs).mono ?_; rw [hok]; rintro e w' ⟨rfl, rfl⟩)
      go_ret2
      exact ⟨rfl, Below.refl _ _⟩
    · have hk : kE false nm = 6 := by simp [kE, hok]
      rw [hk]
      clear hk
      go_enter Tryz.func103, Tryz.ntmps103
      go_wp2_with (first
        | (go_at_call 108; refine (risName_any nm _ hs).mono ?_; rw [hok]; rintro e w' ⟨rfl, rfl⟩)
        | (go_at_call 100; (refine (now_z (sv := sv) (rv := rv) (cs := cs) (off := false) (show RB _ r sv rv cs false from H.out)).mono ?_; rintro e w' ⟨rfl, n, rfl⟩))
        | (go_at_call 127; refine (of_nil nm _).mono ?_; rintro e w' ⟨rfl, rfl⟩))
      go_ret2
      exact ⟨rfl, below_drewN (Below.refl _ _) _⟩
  · have hk : kE true nm = 11 := by simp [kE]
    rw [hk]
    clear hk
    go_enter Tryz.func103, Tryz.ntmps103
    go_wp2
    go_ret2
    exact ⟨rfl, Below.refl _ _⟩

set_option maxRecDepth 100000 in
set_option maxHeartbeats 800000 in
theorem fails_z (h : RB w r sv rv cs false) (q : Int) (hq : 0 ≤ q ∧ q ≤ 3) : Calls Tryz.prog 109 #[.pointer (some ⟨r, 0, none⟩), .int .i64 q] w fun x w' => x = .returned (.int .i64 (fe q)) ∧ RB w' r sv rv cs (decide (q = 1)) ∧ Kept (fun k => k = r) w w' := by
  obtain ⟨c0, c1, c2, c3, c4, c5, c6, c7, c8, c9, c10⟩ := h.cells
  have ff := h.free
  have H := hid h
  clear h
  have hcase : q = 0 ∨ q = 1 ∨ q = 2 ∨ q = 3 := by omega
  clear hq
  rcases hcase with rfl | rfl | rfl | rfl
  · go_enter Tryz.func109, Tryz.ntmps109
    go_wp2
    go_ret
    exact ⟨rfl, H.out, Kept.refl _ _⟩
  · go_enter Tryz.func109, Tryz.ntmps109
    go_wp2
    go_ret
    exact ⟨rfl, set_block (i := 10) H.out _, (Kept.refl (fun k => k = r) w).setCell (p := ⟨r, 10, none⟩) (fun _ => rfl) _⟩
  · go_enter Tryz.func109, Tryz.ntmps109
    go_wp2
    go_ret
    exact ⟨rfl, H.out, Kept.refl _ _⟩
  · go_enter Tryz.func109, Tryz.ntmps109
    go_wp2
    go_ret
    exact ⟨rfl, H.out, Kept.refl _ _⟩

end

section
variable {w : World} {r : Nat} {fs : List (Int × Int)} {cs : Int} {off : Bool}

set_option maxRecDepth 100000 in
set_option maxHeartbeats 800000 in
theorem rstroke_z (h : ZR w r false cs fs) (hl : fs.length ≤ 300) (h0 : 0 ≤ cs) (h1 : cs ≤ 1000000) : Calls Tryz.prog 104 #[.pointer (some ⟨r, 0, none⟩)] w fun x w' => x = .returned (.int .i64 (fe (fo fs (cs + 1)))) ∧ ZR w' r (decide (fo fs (cs + 1) = 1)) (cs + 1) fs ∧ Kept (fun k => k = r) w w' := by
  obtain ⟨sv, rv, hb, hf, hn⟩ := h
  have hb : RB w r sv rv cs false := hb
  obtain ⟨c0, c1, c2, c3, c4, c5, c6, c7, c8, c9, c10⟩ := hb.cells
  have ff := hb.free
  have hrl := hp_lt hb
  have hr := fo_range fs (cs + 1)
  have hb2 : RB (w.setCell ⟨r, 8, none⟩ (.int .i64 (cs + 1))) r sv rv (cs + 1) false := set_block (i := 8) hb _
  have hk2 : Kept (fun k => k = r) w (w.setCell ⟨r, 8, none⟩ (.int .i64 (cs + 1))) := (Kept.refl (fun k => k = r) w).setCell (p := ⟨r, 8, none⟩) (fun _ => rfl) _
  have hf2 : Fl (w.setCell ⟨r, 8, none⟩ (.int .i64 (cs + 1))) sv fs := Rf.kept hf hk2 (fun k hk e => by have := hn.1 k hk; omega)
  obtain ⟨ao, cp, rfl, hc1, hc2⟩ := hf.shape
  have HX := hid (And.intro hb2 (And.intro hk2 (And.intro hf2 (And.intro hr hn))))
  have hcall : Calls Tryz.prog 110 #[.slice ao fs.length cp, .int .i64 (cs + 1)] (w.setCell ⟨r, 8, none⟩ (.int .i64 (cs + 1))).drew fun x w1 => x = .returned (.int .i64 (fo fs (cs + 1))) ∧ RB w1 r (.slice ao fs.length cp) rv (cs + 1) false ∧ Kept (fun k => k = r) w w1 ∧ Fl w1 (.slice ao fs.length cp) fs := by
    refine (fault_any (.slice ao fs.length cp) fs (cs + 1) (w.setCell ⟨r, 8, none⟩ (.int .i64 (cs + 1))).drew hf2 (by omega)).mono ?_
    rintro e w1 ⟨rfl, n, rfl⟩
    exact ⟨rfl, hb2, ⟨hk2.os, hk2.tape, hk2.output, hk2.size, hk2.block⟩, hf2⟩
  have HF := hid hcall
  clear hb hf hn hb2 hk2 hf2 hr hcall
  go_enter Tryz.func104, Tryz.ntmps104
  go_wp2_with fail
  go_region_with (
    first
    | (go_at_call 110
       (
       refine HF.out.mono ?_
       rintro e w1 ⟨rfl, hd⟩
       have HD := hid hd
       clear hd))
    | (go_at_call 109
       refine (fails_z HD.out.1 _ HX.out.2.2.2.1).mono ?_
       rintro e w2 ⟨rfl, hb3, hk3⟩
       have H3 := hid (And.intro hb3 hk3)
       clear hb3 hk3))
  all_goals
    go_wp2
    go_ret
    obtain ⟨hb2, hk2, hf2, hr, hn⟩ := HX.out
    obtain ⟨hb3, hk3⟩ := H3.out
    obtain ⟨hb1, hk1, hf1⟩ := HD.out
    exact ⟨rfl, ⟨_, rv, hb3, Rf.kept hf1 hk3 (fun k hk e => by have := hn.1 k hk; omega), hn⟩, hk1.trans hk3 (fun _ _ e => e)⟩

end
end Go.Proofs.YtlmompdfombgeaaGreat

namespace Go.Proofs.YtlmompdfombgeaaGreat
open Go.RowKit Go.MapKept

/-- List's error. -/
def liE (off : Bool) : Int := if off then 11 else 0

section
variable {w : World} {d : Nat} {off : Bool} {cs : Int} {fs : List (Int × Int)}

set_option maxRecDepth 100000 in
set_option maxHeartbeats 800000 in
theorem list_z (h : ZD w d off cs fs) : Calls Tryz.prog 16 #[.pointer (some ⟨d, 0, none⟩)] w fun x w' => x = .returned (.tuple #[.slice none 0 0, .int .i64 (liE off)]) ∧ Below w.heap.size w w' := by
  obtain ⟨L, k1, k2, hd, hL, hk⟩ := h
  obtain ⟨c0, c1, c2, c3, c4, c5, c6, c7, c8, c9, c10, c11⟩ := hd.cells
  clear hd hL hk
  cases off
  · show Calls Tryz.prog 16 #[.pointer (some ⟨d, 0, none⟩)] w fun x w' => x = .returned (.tuple #[.slice none 0 0, .int .i64 0]) ∧ Below w.heap.size w w'
    go_enter Tryz.func16, Tryz.ntmps16
    go_wp2_with (first
      | (go_at_call 69
         refine (find_plain d w c7).mono ?_
         rintro e w1 ⟨rfl, hb1⟩
         have a4 := (hb1.cell (World.block_lt_of_cell? _ _ c4)).trans c4
         have HB1 := hid hb1
         clear hb1)
      | (go_at_call 72
         refine (sorted_nil w1).mono ?_
         rintro e w2 ⟨rfl, hb2⟩
         have HB2 := hid hb2
         clear hb2))
    go_ret2
    exact ⟨rfl, HB1.out.trans (HB2.out.mono HB1.out.size)⟩
  · show Calls Tryz.prog 16 #[.pointer (some ⟨d, 0, none⟩)] w fun x w' => x = .returned (.tuple #[.slice none 0 0, .int .i64 11]) ∧ Below w.heap.size w w'
    go_enter Tryz.func16, Tryz.ntmps16
    go_wp2_with (first
      | (go_at_call 69
         refine (find_off d _ _ _ w c7 rfl rfl rfl).mono ?_
         rintro e w1 ⟨rfl, hb1⟩
         have HB1 := hid hb1
         clear hb1))
    go_ret2
    exact ⟨rfl, HB1.out⟩

set_option maxRecDepth 100000 in
set_option maxHeartbeats 800000 in
theorem pending_z (h : ZD w d off cs fs) : Calls Tryz.prog 17 #[.pointer (some ⟨d, 0, none⟩)] w fun x w' => x = .returned (.tuple #[.int .i64 0, .slice none 0 0]) ∧ Below w.heap.size w w' := by
  obtain ⟨L, k1, k2, hd, hL, hk⟩ := h
  obtain ⟨c0, c1, c2, c3, c4, c5, c6, c7, c8, c9, c10, c11⟩ := hd.cells
  have H := hid hL
  clear hd hL hk
  go_enter Tryz.func17, Tryz.ntmps17
  go_wp2_with (
    go_at_call 73
    refine (making_nk d L w c2 H.out).mono ?_
    rintro e w1 ⟨rfl, hb1⟩
    have a6 := (hb1.cell (World.block_lt_of_cell? _ _ c6)).trans c6
    have HB1 := hid hb1
    clear hb1)
  refine wp_loop_rounds 1 ?_
  rw [rounds_succ]
  go_wp2
  go_ret2
  exact ⟨rfl, HB1.out⟩

set_option maxRecDepth 100000 in
set_option maxHeartbeats 800000 in
theorem held_z (h : ZD w d off cs fs) : Calls Tryz.prog 18 #[.pointer (some ⟨d, 0, none⟩)] w fun x w' => x = .returned (.tuple #[.int .i64 0, .int .i64 0]) ∧ Below w.heap.size w w' := by
  obtain ⟨L, k1, k2, hd, hL, hk⟩ := h
  obtain ⟨c0, c1, c2, c3, c4, c5, c6, c7, c8, c9, c10, c11⟩ := hd.cells
  have H := hid hL
  clear hd hL hk
  go_enter Tryz.func18, Tryz.ntmps18
  go_wp2_with (
    go_at_call 74
    refine (held_nk L w H.out).mono ?_
    rintro e w1 ⟨rfl, hb1⟩
    have HB1 := hid hb1
    clear hb1)
  go_ret2
  exact ⟨rfl, HB1.out⟩

set_option maxRecDepth 100000 in
set_option maxHeartbeats 800000 in
theorem files_z (h : ZD w d off cs fs) : Calls Tryz.prog 29 #[.pointer (some ⟨d, 0, none⟩)] w fun x w' => x = .returned (.slice none 0 0) ∧ Below w.heap.size w w' := by
  have hmf : ∀ (fn : Fn) (first cap : Array Value) (w : World), (Instr.makeFunc fn first cap).run Tryz.prog w = .ok (.func fn first cap) w := fun _ _ _ _ => rfl
  obtain ⟨L, k1, k2, hd, hL, hk⟩ := h
  obtain ⟨c0, c1, c2, c3, c4, c5, c6, c7, c8, c9, c10, c11⟩ := hd.cells
  have hdl := hp_lt hd
  clear hd hL hk
  go_enter Tryz.func29, Tryz.ntmps29
  go_wp2_with (
    go_at_call 96
    refine (told_nil 98 _ _).mono ?_
    rintro e w1 ⟨rfl, hb1⟩
    have HB1 := hid hb1
    clear hb1)
  go_ret
  exact ⟨rfl, ((Below.refl _ w).alloc (Nat.le_refl _) _).trans (HB1.out.mono (by simp))⟩

set_option maxRecDepth 100000 in
set_option maxHeartbeats 800000 in
theorem safe_z (h : ZD w d off cs fs) : Calls Tryz.prog 30 #[.pointer (some ⟨d, 0, none⟩)] w fun x w' => x = .returned (.slice none 0 0) ∧ Below w.heap.size w w' := by
  have hmf : ∀ (fn : Fn) (first cap : Array Value) (w : World), (Instr.makeFunc fn first cap).run Tryz.prog w = .ok (.func fn first cap) w := fun _ _ _ _ => rfl
  obtain ⟨L, k1, k2, hd, hL, hk⟩ := h
  obtain ⟨c0, c1, c2, c3, c4, c5, c6, c7, c8, c9, c10, c11⟩ := hd.cells
  have hdl := hp_lt hd
  clear hd hL hk
  go_enter Tryz.func30, Tryz.ntmps30
  go_wp2_with (
    go_at_call 96
    refine (told_nil 99 _ _).mono ?_
    rintro e w1 ⟨rfl, hb1⟩
    have HB1 := hid hb1
    clear hb1)
  go_ret
  exact ⟨rfl, ((Below.refl _ w).alloc (Nat.le_refl _) _).trans (HB1.out.mono (by simp))⟩

end

section
variable {w : World} {r : Nat} {sv rv : Value} {cs : Int} {off : Bool}

set_option maxRecDepth 100000 in
set_option maxHeartbeats 800000 in
theorem rlist_z (h : RB w r sv rv cs off) : Calls Tryz.prog 41 #[.pointer (some ⟨r, 0, none⟩)] w fun x w' => x = .returned (.tuple #[.slice none 0 0, .int .i64 (liE off)]) ∧ Below w.heap.size w w' := by
  obtain ⟨c0, c1, c2, c3, c4, c5, c6, c7, c8, c9, c10⟩ := h.cells
  have H := hid h
  clear h
  cases off
  · show Calls Tryz.prog 41 #[.pointer (some ⟨r, 0, none⟩)] w fun x w' => x = .returned (.tuple #[.slice none 0 0, .int .i64 0]) ∧ Below w.heap.size w w'
    go_enter Tryz.func41, Tryz.ntmps41
    go_wp2_with (go_at_call 100; refine (now_z (w := w) H.out).mono ?_; rintro e w' ⟨rfl, n, rfl⟩)
    refine wp_loop_rounds 1 ?_
    rw [rounds_succ]
    go_wp2
    go_ret2
    exact ⟨rfl, below_drewN (Below.refl _ _) _⟩
  · show Calls Tryz.prog 41 #[.pointer (some ⟨r, 0, none⟩)] w fun x w' => x = .returned (.tuple #[.slice none 0 0, .int .i64 11]) ∧ Below w.heap.size w w'
    go_enter Tryz.func41, Tryz.ntmps41
    go_wp2
    go_ret2
    exact ⟨rfl, Below.refl _ _⟩

set_option maxRecDepth 100000 in
set_option maxHeartbeats 800000 in
theorem rpending_z (h : RB w r sv rv cs off) : Calls Tryz.prog 42 #[.pointer (some ⟨r, 0, none⟩)] w fun x w' => x = .returned (.tuple #[.int .i64 0, .slice none 0 0]) ∧ Below w.heap.size w w' := by
  obtain ⟨c0, c1, c2, c3, c4, c5, c6, c7, c8, c9, c10⟩ := h.cells
  clear h
  go_enter Tryz.func42, Tryz.ntmps42
  go_wp2
  refine wp_loop_rounds 1 ?_
  rw [rounds_succ]
  go_wp2
  go_ret2
  exact ⟨rfl, Below.refl _ _⟩

set_option maxRecDepth 100000 in
set_option maxHeartbeats 800000 in
theorem rheld_z (h : RB w r sv rv cs off) : Calls Tryz.prog 43 #[.pointer (some ⟨r, 0, none⟩)] w fun x w' => x = .returned (.tuple #[.int .i64 0, .int .i64 0]) ∧ Below w.heap.size w w' := by
  obtain ⟨c0, c1, c2, c3, c4, c5, c6, c7, c8, c9, c10⟩ := h.cells
  clear h
  go_enter Tryz.func43, Tryz.ntmps43
  go_wp2
  refine wp_loop_rounds 1 ?_
  rw [rounds_succ]
  go_wp2
  go_quiet (fail)
  go_wp2
  go_ret2
  exact ⟨rfl, below_drewN (Below.refl _ _) _⟩

set_option maxRecDepth 100000 in
set_option maxHeartbeats 800000 in
theorem rFiles_z (h : RB w r sv rv cs off) : Calls Tryz.prog 46 #[.pointer (some ⟨r, 0, none⟩)] w fun x w' => x = .returned (.slice none 0 0) ∧ Below w.heap.size w w' := by
  have H := hid h
  clear h
  go_enter Tryz.func46, Tryz.ntmps46
  go_wp2_with (first
    | (go_at_call 100; refine (now_z (w := w) H.out).mono ?_; rintro e w' ⟨rfl, n, rfl⟩)
    | (go_at_call 102; refine (rfiles_zero r _ _).mono ?_; rintro e w' ⟨rfl, rfl⟩))
  go_ret
  exact ⟨rfl, below_drewN (Below.refl _ _) _⟩

set_option maxRecDepth 100000 in
set_option maxHeartbeats 800000 in
theorem rSafe_z (h : RB w r sv rv cs off) : Calls Tryz.prog 47 #[.pointer (some ⟨r, 0, none⟩)] w fun x w' => x = .returned (.slice none 0 0) ∧ Below w.heap.size w w' := by
  obtain ⟨c0, c1, c2, c3, c4, c5, c6, c7, c8, c9, c10⟩ := h.cells
  clear h
  go_enter Tryz.func47, Tryz.ntmps47
  go_wp2_with (first
    | (go_at_call 102; refine (rfiles_zero r _ _).mono ?_; rintro e w' ⟨rfl, rfl⟩))
  go_ret
  exact ⟨rfl, Below.refl _ _⟩

theorem RB.below {w' : World} (h : RB w r sv rv cs off) (hk : Below w.heap.size w w') : RB w' r sv rv cs off := hp_below h hk (hp_lt h)
end

set_option maxRecDepth 100000 in
set_option maxHeartbeats 3200000 in
theorem alike_z {w : World} {d r : Nat} {off : Bool} {cs : Int} {fs gs : List (Int × Int)} (h : ZD w d off cs fs) (hr0 : ZR w r off cs gs) : Calls Tryz.prog 11 #[.pointer (some ⟨d, 0, none⟩), .pointer (some ⟨r, 0, none⟩)] w fun x w' => x = .returned (.bool true) ∧ Below w.heap.size w w' := by
  obtain ⟨sv, rv, hr, -, -⟩ := hr0
  have hr : RB w r sv rv cs off := hr
  have H := hid (And.intro h hr)
  clear h hr
  go_enter Tryz.func11, Tryz.ntmps11
  go_wp2_with (
    go_at_call 16
    refine (list_z H.out.1).mono ?_
    rintro e w1 ⟨rfl, hb⟩
    have H1 := hid (And.intro (H.out.1.below hb) (And.intro (H.out.2.below hb) hb))
    clear hb)
  go_wp2_with (
    go_at_call 41
    refine (rlist_z H1.out.2.1).mono ?_
    rintro e w2 ⟨rfl, hb⟩
    have H2 := hid (And.intro (H1.out.1.below hb) (And.intro (H1.out.2.1.below hb) (H1.out.2.2.trans (hb.mono H1.out.2.2.size))))
    clear hb)
  go_wp2_with (
    go_at_call 17
    refine (pending_z H2.out.1).mono ?_
    rintro e w3 ⟨rfl, hb⟩
    have H3 := hid (And.intro (H2.out.1.below hb) (And.intro (H2.out.2.1.below hb) (H2.out.2.2.trans (hb.mono H2.out.2.2.size))))
    clear hb)
  go_wp2_with (
    go_at_call 42
    refine (rpending_z H3.out.2.1).mono ?_
    rintro e w4 ⟨rfl, hb⟩
    have H4 := hid (And.intro (H3.out.1.below hb) (And.intro (H3.out.2.1.below hb) (H3.out.2.2.trans (hb.mono H3.out.2.2.size))))
    clear hb)
  go_wp2_with (
    go_at_call 18
    refine (held_z H4.out.1).mono ?_
    rintro e w5 ⟨rfl, hb⟩
    have H5 := hid (And.intro (H4.out.1.below hb) (And.intro (H4.out.2.1.below hb) (H4.out.2.2.trans (hb.mono H4.out.2.2.size))))
    clear hb)
  go_wp2_with (
    go_at_call 43
    refine (rheld_z H5.out.2.1).mono ?_
    rintro e w6 ⟨rfl, hb⟩
    have H6 := hid (And.intro (H5.out.1.below hb) (And.intro (H5.out.2.1.below hb) (H5.out.2.2.trans (hb.mono H5.out.2.2.size))))
    clear hb)
  go_wp2_with (first
    | (go_at_call 44; refine (nil_texts _).mono ?_; rintro e w' ⟨rfl, rfl⟩)
    | (go_at_call 45; refine (nil_ints _).mono ?_; rintro e w' ⟨rfl, rfl⟩))
  go_wp2_with (
    go_at_call 29
    refine (files_z H6.out.1).mono ?_
    rintro e w7 ⟨rfl, hb⟩
    have H7 := hid (And.intro (H6.out.1.below hb) (And.intro (H6.out.2.1.below hb) (H6.out.2.2.trans (hb.mono H6.out.2.2.size))))
    clear hb)
  go_wp2_with (
    go_at_call 46
    refine (rFiles_z H7.out.2.1).mono ?_
    rintro e w8 ⟨rfl, hb⟩
    have H8 := hid (And.intro (H7.out.1.below hb) (And.intro (H7.out.2.1.below hb) (H7.out.2.2.trans (hb.mono H7.out.2.2.size))))
    clear hb)
  go_wp2_with (first
    | (go_at_call 39; refine (nil_files w8).mono ?_; rintro e wa ⟨rfl, ea⟩; subst ea))
  go_wp2_with (
    go_at_call 30
    refine (safe_z H8.out.1).mono ?_
    rintro e w9 ⟨rfl, hb⟩
    have H9 := hid (And.intro (H8.out.1.below hb) (And.intro (H8.out.2.1.below hb) (H8.out.2.2.trans (hb.mono H8.out.2.2.size))))
    clear hb)
  go_wp2_with (
    go_at_call 47
    refine (rSafe_z H9.out.2.1).mono ?_
    rintro e wz ⟨rfl, hb⟩
    have HA := hid (And.intro (H9.out.1.below hb) (And.intro (H9.out.2.1.below hb) (H9.out.2.2.trans (hb.mono H9.out.2.2.size))))
    have hz1 := HA.out.1
    obtain ⟨Lz, k1z, k2z, hdz, -, -⟩ := hz1
    obtain ⟨-, -, -, -, -, -, -, x7, x8, -, x10, -⟩ := hdz.cells
    obtain ⟨-, -, -, -, -, -, -, -, y8, y9, y10⟩ := HA.out.2.1.cells
    have HBz := hid HA.out.2.2
    clear hb HA hdz)
  go_wp2_with (first
    | (go_at_call 39; refine (nil_files wz).mono ?_; rintro e wb ⟨rfl, eb⟩; subst eb)
    | (go_at_call 31; refine (off_any d off _ x7).mono ?_; rintro e wb ⟨rfl, eb⟩; subst eb)
    | (go_at_call 48; refine (roff_any r off _ y10).mono ?_; rintro e wb ⟨rfl, eb⟩; subst eb)
    | (go_at_call 32; refine (strokes_any d cs _ x8).mono ?_; rintro e wb ⟨rfl, eb⟩; subst eb)
    | (go_at_call 49; refine (rstrokes_any r cs _ y8).mono ?_; rintro e wb ⟨rfl, eb⟩; subst eb)
    | (go_at_call 33; refine (reads_any d 0 _ x10).mono ?_; rintro e wb ⟨rfl, eb⟩; subst eb)
    | (go_at_call 50; refine (rreads_any r 0 _ y9).mono ?_; rintro e wb ⟨rfl, eb⟩; subst eb))
  go_ret
  exact ⟨rfl, HBz.out⟩

end Go.Proofs.YtlmompdfombgeaaGreat
