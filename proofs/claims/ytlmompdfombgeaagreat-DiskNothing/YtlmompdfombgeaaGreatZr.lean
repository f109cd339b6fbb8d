import Derived.Test.YtlmompdfombgeaaGreatZa
import Derived.Test.YtlmompdfombgeaaGreatA2
namespace Go.Proofs.YtlmompdfombgeaaGreat
open Go.RowKit Go.MapKept

/-- The document's zero disk, its block. -/
def RB (w : World) (r : Nat) (sv rv : Value) (cs : Int) (off : Bool) : Prop := w.heap[r]? = some (.cells #[.int .i64 0, .int .i64 0, .int .i64 0, .slice none 0 0, .slice none 0 0, .slice none 0 0, sv, rv, .int .i64 cs, .int .i64 0, .bool off] 58 (0, 0))

theorem RB.cells {w : World} {r : Nat} {sv rv : Value} {cs : Int} {off : Bool} (h : RB w r sv rv cs off) : w.cell? ⟨r, 0, none⟩ = some (.int .i64 0) ∧ w.cell? ⟨r, 1, none⟩ = some (.int .i64 0) ∧ w.cell? ⟨r, 2, none⟩ = some (.int .i64 0) ∧ w.cell? ⟨r, 3, none⟩ = some (.slice none 0 0) ∧ w.cell? ⟨r, 4, none⟩ = some (.slice none 0 0) ∧ w.cell? ⟨r, 5, none⟩ = some (.slice none 0 0) ∧ w.cell? ⟨r, 6, none⟩ = some sv ∧ w.cell? ⟨r, 7, none⟩ = some rv ∧ w.cell? ⟨r, 8, none⟩ = some (.int .i64 cs) ∧ w.cell? ⟨r, 9, none⟩ = some (.int .i64 0) ∧ w.cell? ⟨r, 10, none⟩ = some (.bool off) := by
  unfold RB at h
  refine ⟨?_, ?_, ?_, ?_, ?_, ?_, ?_, ?_, ?_, ?_, ?_⟩ <;> (rw [cell_of_row w r _ _ _ _ h]; rfl)

theorem RB.free {w : World} {r : Nat} {sv rv : Value} {cs : Int} {off : Bool} (h : RB w r sv rv cs off) : ∀ o, w.frozen? ⟨r, o, none⟩ = false := fun _o => free_of_block h

set_option maxRecDepth 100000 in
set_option maxHeartbeats 1000000 in
theorem risName_any (s : ByteArray) (w : World) (hs : s.size ≤ maxLen) : Calls Tryz.prog 108 #[.string s] w fun x w' => x = .returned (.bool (nmOK s)) ∧ w' = w := by
  unfold maxLen at hs
  obtain ⟨r, hr⟩ : ∃ r, r = nmOK s := ⟨_, rfl⟩
  rw [← hr]
  have HR := hid hr
  clear hr
  go_enter Tryz.func108, Tryz.ntmps108
  go_wp2
  go_loop [3] (fun i => ∃ k : Nat, k ≤ s.size ∧ i = .int .i64 k ∧ Hid ((s.data.toList.take k).all (fun c => decide (33 ≤ c.toNat) && decide (c.toNat ≤ 126)) = true)) (fun i => s.size - (intOf i).toNat)
  case atStart => exact ⟨0, Nat.zero_le _, rfl, hid (by simp)⟩
  case round =>
    obtain ⟨k, hk, rfl, hall⟩ := hrel
    by_cases hlt : k < s.size
    · by_cases hgo : 33 ≤ s[k].toNat ∧ s[k].toNat ≤ 126
      · obtain ⟨g1, g2⟩ := hgo
        have HN := hid (show (s.data.toList.take (k + 1)).all (fun c => decide (33 ≤ c.toNat) && decide (c.toNat ≤ 126)) = true by rw [take_snocB s k hlt, List.all_append, hall.out]; simp [g1, g2])
        have j1 : ¬ ((s[k].toNat : Int) < 33) := by omega
        have j2 : ¬ (126 < (s[k].toNat : Int)) := by omega
        go_wp2
        go_round
        case rel => exact ⟨k + 1, by omega, by go_num, HN⟩
        case measure => simp [intOf]; omega
      · have Hr := hid (show nmOK s = false by
          have hm : s[k] ∈ s.data.toList := by
            have : s[k] ∈ s.data.toList.take (k + 1) := by rw [take_snocB s k hlt]; simp
            exact List.mem_of_mem_take this
          have hf : s.data.toList.all (fun c => decide (33 ≤ c.toNat) && decide (c.toNat ≤ 126)) = false := by
            rw [Bool.eq_false_iff]
            intro h
            have := List.all_eq_true.1 h _ hm
            simp at this
            exact hgo this
          simp [nmOK, hf])
        by_cases j1 : (s[k].toNat : Int) < 33
        · go_wp2
          go_ret
          exact ⟨by rw [HR.out, Hr.out]; rfl, rfl⟩
        · have j2 : 126 < (s[k].toNat : Int) := by omega
          go_wp2
          go_ret
          exact ⟨by rw [HR.out, Hr.out]; rfl, rfl⟩
    · have hq := hid (show nmOK s = (decide (1 ≤ s.size) && decide (s.size ≤ 40)) by
        have := hall.out
        rw [List.take_of_length_le (by simp; omega)] at this
        simp only [nmOK, this, Bool.and_true])
      by_cases h1 : (1 : Int) ≤ s.size
      · by_cases h2 : (s.size : Int) ≤ 40
        · have Hr := hid (show nmOK s = true by rw [hq.out]; simp; omega)
          go_wp2
          go_ret
          exact ⟨by rw [HR.out, Hr.out]; rfl, rfl⟩
        · have Hr := hid (show nmOK s = false by rw [hq.out]; simp; omega)
          go_wp2
          go_ret
          exact ⟨by rw [HR.out, Hr.out]; rfl, rfl⟩
      · have Hr := hid (show nmOK s = false by rw [hq.out]; simp; omega)
        go_wp2
        go_ret
        exact ⟨by rw [HR.out, Hr.out]; rfl, rfl⟩

set_option maxRecDepth 100000 in
theorem of_nil (nm : ByteArray) (w : World) : Calls Tryz.prog 127 #[.slice none 0 0, .string nm] w fun x w' => x = .returned (.int .i64 0) ∧ w' = w := by
  go_enter Tryz.func127, Tryz.ntmps127
  go_wp2
  refine wp_loop_rounds 1 ?_
  rw [rounds_succ]
  go_wp2
  go_ret
  exact ⟨rfl, rfl⟩

set_option maxRecDepth 100000 in
theorem without_nil (nm : ByteArray) (w : World) : Calls Tryz.prog 115 #[.slice none 0 0, .string nm] w fun x w' => x = .returned (.slice none 0 0) ∧ w' = w := by
  go_enter Tryz.func115, Tryz.ntmps115
  go_wp2
  refine wp_loop_rounds 1 ?_
  rw [rounds_succ]
  go_wp2
  go_ret
  exact ⟨rfl, rfl⟩

section
variable {w : World} {r : Nat} {sv rv : Value} {cs : Int} {off : Bool}

set_option maxRecDepth 100000 in
set_option maxHeartbeats 800000 in
theorem now_z (h : RB w r sv rv cs off) : Calls Tryz.prog 100 #[.pointer (some ⟨r, 0, none⟩)] w fun x w' => x = .returned (.slice none 0 0) ∧ ∃ n, w' = w.drewN n := by
  obtain ⟨c0, c1, c2, c3, c4, c5, c6, c7, c8, c9, c10⟩ := h.cells
  clear h
  go_enter Tryz.func100, Tryz.ntmps100
  go_wp2_with (go_at_call 113; refine (names_zero r _ c4).mono ?_; rintro e w' ⟨rfl, rfl⟩)
  go_ret
  exact ⟨rfl, 0, rfl⟩

set_option maxRecDepth 100000 in
set_option maxHeartbeats 800000 in
theorem known_z (h : RB w r sv rv cs off) (nm : ByteArray) (hs : nm.size ≤ maxLen) : Calls Tryz.prog 103 #[.pointer (some ⟨r, 0, none⟩), .string nm] w fun x w' => x = .returned (.tuple #[.int .i64 0, .int .i64 (kE off nm)]) ∧ Below w.heap.size w w' := by
  obtain ⟨c0, c1, c2, c3, c4, c5, c6, c7, c8, c9, c10⟩ := h.cells
  have H := hid h
  clear h
  cases off
  · cases hok : nmOK nm
    · have hk : kE false nm = 5 := by simp [kE, hok]
      rw [hk]
      clear hk
      go_enter Tryz.func103, Tryz.ntmps103
      go_wp2_with (go_at_call 108; refine (risName_any nm _ hs).mono ?_; rw [hok]; rintro e w' ⟨rfl, rfl⟩)
      go_ret2
      exact ⟨rfl, Below.refl _ _⟩
    · have hk : kE false nm = 6 := by simp [kE, hok]
      rw [hk]
      clear hk
      go_enter Tryz.func103, Tryz.ntmps103
      go_wp2_with (first
        | (go_at_call 108; refine (risName_any nm _ hs).mono ?_; rw [hok]; rintro e w' ⟨rfl, rfl⟩)
        | (go_at_call 100; (refine (now_z (sv := sv) (rv := rv) (cs := cs) (off := false) (show RB _ r sv rv cs false from H.out)).mono ?_; rintro e w' ⟨rfl, n, rfl⟩))
        | (go_at_call 127; refine (of_nil nm _).mono ?_; rintro e w' ⟨rfl, rfl⟩))
      go_ret2
      exact ⟨rfl, below_drewN (Below.refl _ _) _⟩
  · have hk : kE true nm = 11 := by simp [kE]
    rw [hk]
    clear hk
    go_enter Tryz.func103, Tryz.ntmps103
    go_wp2
    go_ret2
    exact ⟨rfl, Below.refl _ _⟩

set_option maxRecDepth 100000 in
set_option maxHeartbeats 800000 in
theorem fails_z (h : RB w r sv rv cs false) (q : Int) (hq : 0 ≤ q ∧ q ≤ 3) : Calls Tryz.prog 109 #[.pointer (some ⟨r, 0, none⟩), .int .i64 q] w fun x w' => x = .returned (.int .i64 (fe q)) ∧ RB w' r sv rv cs (decide (q = 1)) ∧ Kept (fun k => k = r) w w' := by
  obtain ⟨c0, c1, c2, c3, c4, c5, c6, c7, c8, c9, c10⟩ := h.cells
  have ff := h.free
  have H := hid h
  clear h
  have hcase : q = 0 ∨ q = 1 ∨ q = 2 ∨ q = 3 := by omega
  clear hq
  rcases hcase with rfl | rfl | rfl | rfl
  · go_enter Tryz.func109, Tryz.ntmps109
    go_wp2
    go_ret
    exact ⟨rfl, H.out, Kept.refl _ _⟩
  · go_enter Tryz.func109, Tryz.ntmps109
    go_wp2
    go_ret
    exact ⟨rfl, set_block (i := 10) H.out _, (Kept.refl (fun k => k = r) w).setCell (p := ⟨r, 10, none⟩) (fun _ => rfl) _⟩
  · go_enter Tryz.func109, Tryz.ntmps109
    go_wp2
    go_ret
    exact ⟨rfl, H.out, Kept.refl _ _⟩
  · go_enter Tryz.func109, Tryz.ntmps109
    go_wp2
    go_ret
    exact ⟨rfl, H.out, Kept.refl _ _⟩

end

section
variable {w : World} {r : Nat} {fs : List (Int × Int)} {cs : Int} {off : Bool}

set_option maxRecDepth 100000 in
set_option maxHeartbeats 800000 in
theorem rstroke_z (h : ZR w r false cs fs) (hl : fs.length ≤ 300) (h0 : 0 ≤ cs) (h1 : cs ≤ 1000000) : Calls Tryz.prog 104 #[.pointer (some ⟨r, 0, none⟩)] w fun x w' => x = .returned (.int .i64 (fe (fo fs (cs + 1)))) ∧ ZR w' r (decide (fo fs (cs + 1) = 1)) (cs + 1) fs ∧ Kept (fun k => k = r) w w' := by
  obtain ⟨sv, rv, hb, hf, hn⟩ := h
  have hb : RB w r sv rv cs false := hb
  obtain ⟨c0, c1, c2, c3, c4, c5, c6, c7, c8, c9, c10⟩ := hb.cells
  have ff := hb.free
  have hrl := hp_lt hb
  have hr := fo_range fs (cs + 1)
  have hb2 : RB (w.setCell ⟨r, 8, none⟩ (.int .i64 (cs + 1))) r sv rv (cs + 1) false := set_block (i := 8) hb _
  have hk2 : Kept (fun k => k = r) w (w.setCell ⟨r, 8, none⟩ (.int .i64 (cs + 1))) := (Kept.refl (fun k => k = r) w).setCell (p := ⟨r, 8, none⟩) (fun _ => rfl) _
  have hf2 : Fl (w.setCell ⟨r, 8, none⟩ (.int .i64 (cs + 1))) sv fs := Rf.kept hf hk2 (fun k hk e => by have := hn.1 k hk; omega)
  obtain ⟨ao, cp, rfl, hc1, hc2⟩ := hf.shape
  have HX := hid (And.intro hb2 (And.intro hk2 (And.intro hf2 (And.intro hr hn))))
  have hcall : Calls Tryz.prog 110 #[.slice ao fs.length cp, .int .i64 (cs + 1)] (w.setCell ⟨r, 8, none⟩ (.int .i64 (cs + 1))).drew fun x w1 => x = .returned (.int .i64 (fo fs (cs + 1))) ∧ RB w1 r (.slice ao fs.length cp) rv (cs + 1) false ∧ Kept (fun k => k = r) w w1 ∧ Fl w1 (.slice ao fs.length cp) fs := by
    refine (fault_any (.slice ao fs.length cp) fs (cs + 1) (w.setCell ⟨r, 8, none⟩ (.int .i64 (cs + 1))).drew hf2 (by omega)).mono ?_
    rintro e w1 ⟨rfl, n, rfl⟩
    exact ⟨rfl, hb2, ⟨hk2.os, hk2.tape, hk2.output, hk2.size, hk2.block⟩, hf2⟩
  have HF := hid hcall
  clear hb hf hn hb2 hk2 hf2 hr hcall
  go_enter Tryz.func104, Tryz.ntmps104
  go_wp2_with fail
  go_region_with (
    first
    | (go_at_call 110
       (
       refine HF.out.mono ?_
       rintro e w1 ⟨rfl, hd⟩
       have HD := hid hd
       clear hd))
    | (go_at_call 109
       refine (fails_z HD.out.1 _ HX.out.2.2.2.1).mono ?_
       rintro e w2 ⟨rfl, hb3, hk3⟩
       have H3 := hid (And.intro hb3 hk3)
       clear hb3 hk3))
  all_goals
    go_wp2
    go_ret
    obtain ⟨hb2, hk2, hf2, hr, hn⟩ := HX.out
    obtain ⟨hb3, hk3⟩ := H3.out
    obtain ⟨hb1, hk1, hf1⟩ := HD.out
    exact ⟨rfl, ⟨_, rv, hb3, Rf.kept hf1 hk3 (fun k hk e => by have := hn.1 k hk; omega), hn⟩, hk1.trans hk3 (fun _ _ e => e)⟩

end
end Go.Proofs.YtlmompdfombgeaaGreat
