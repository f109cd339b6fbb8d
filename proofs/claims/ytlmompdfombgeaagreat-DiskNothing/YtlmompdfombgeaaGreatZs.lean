import Derived.Test.YtlmompdfombgeaaGreatZr
import Derived.Test.YtlmompdfombgeaaGreatZe
namespace Go.Proofs.YtlmompdfombgeaaGreat
open Go.RowKit Go.MapKept

set_option maxRecDepth 100000 in
theorem Round_of1 (v : Int) (w : World) (h : I64 v) : Calls Tryz.prog 114 #[.int .i64 v, .int .i64 1] w fun x w' => x = .returned (.int .i64 0) ∧ w' = w := by
  obtain ⟨h0, h1⟩ := h
  have e1 : Int.tmod v 1 = 0 := by simp
  go_enter Tryz.func114, Tryz.ntmps114
  go_wp2
  go_ret
  exact ⟨rfl, rfl⟩

section
variable {w : World} {r : Nat} {sv rv : Value} {cs : Int} {off : Bool}

set_option maxRecDepth 100000 in
set_option maxHeartbeats 800000 in
theorem forget_z (h : RB w r sv rv cs off) : Calls Tryz.prog 107 #[.pointer (some ⟨r, 0, none⟩)] w fun x w' => x = .returned (.tuple #[]) ∧ RB w' r sv rv cs off ∧ Kept (fun k => k = r) w w' := by
  obtain ⟨c0, c1, c2, c3, c4, c5, c6, c7, c8, c9, c10⟩ := h.cells
  have ff := h.free
  have H := hid h
  clear h
  go_enter Tryz.func107, Tryz.ntmps107
  go_wp2
  refine wp_loop_rounds 1 ?_
  rw [rounds_succ]
  go_wp2
  go_end0
  exact ⟨rfl, set_block (i := 3) H.out _, (Kept.refl (fun k => k = r) w).setCell (p := ⟨r, 3, none⟩) (fun _ => rfl) _⟩

set_option maxRecDepth 100000 in
set_option maxHeartbeats 800000 in
theorem rappend_z (nm : ByteArray) (ao : Option Addr) (n c : Nat) (h : RB w r sv rv cs off) (hs : nm.size ≤ maxLen) : Calls Tryz.prog 53 #[.pointer (some ⟨r, 0, none⟩), .string nm, .slice ao n c] w fun x w' => x = .returned (.int .i64 (kE off nm)) ∧ Below w.heap.size w w' := by
  have hne := kE_ne off nm
  have HK := hid (known_z h nm hs)
  obtain ⟨q, hq⟩ : ∃ q, q = kE off nm := ⟨_, rfl⟩
  rw [← hq] at hne HK ⊢
  clear h hq
  go_enter Tryz.func53, Tryz.ntmps53
  go_wp2_with (go_at_call 103; refine HK.out.mono ?_; rintro e w1 ⟨rfl, hb⟩; have HB := hid hb; clear hb)
  go_ret
  exact ⟨rfl, HB.out⟩

set_option maxRecDepth 100000 in
set_option maxHeartbeats 800000 in
theorem rtruncate_z (nm : ByteArray) (sz : Int) (h : RB w r sv rv cs off) (hs : nm.size ≤ maxLen) : Calls Tryz.prog 54 #[.pointer (some ⟨r, 0, none⟩), .string nm, .int .i64 sz] w fun x w' => x = .returned (.int .i64 (kE off nm)) ∧ Below w.heap.size w w' := by
  have hne := kE_ne off nm
  have HK := hid (known_z h nm hs)
  obtain ⟨q, hq⟩ : ∃ q, q = kE off nm := ⟨_, rfl⟩
  rw [← hq] at hne HK ⊢
  clear h hq
  go_enter Tryz.func54, Tryz.ntmps54
  go_wp2_with (go_at_call 103; refine HK.out.mono ?_; rintro e w1 ⟨rfl, hb⟩; have HB := hid hb; clear hb)
  go_ret
  exact ⟨rfl, HB.out⟩

set_option maxRecDepth 100000 in
set_option maxHeartbeats 800000 in
theorem rsync_z (nm : ByteArray) (h : RB w r sv rv cs off) (hs : nm.size ≤ maxLen) : Calls Tryz.prog 55 #[.pointer (some ⟨r, 0, none⟩), .string nm] w fun x w' => x = .returned (.int .i64 (kE off nm)) ∧ Below w.heap.size w w' := by
  have hne := kE_ne off nm
  have HK := hid (known_z h nm hs)
  obtain ⟨q, hq⟩ : ∃ q, q = kE off nm := ⟨_, rfl⟩
  rw [← hq] at hne HK ⊢
  clear h hq
  go_enter Tryz.func55, Tryz.ntmps55
  go_wp2_with (go_at_call 103; refine HK.out.mono ?_; rintro e w1 ⟨rfl, hb⟩; have HB := hid hb; clear hb)
  go_ret
  exact ⟨rfl, HB.out⟩

set_option maxRecDepth 100000 in
set_option maxHeartbeats 800000 in
theorem rremove_z (nm : ByteArray) (h : RB w r sv rv cs off) (hs : nm.size ≤ maxLen) : Calls Tryz.prog 58 #[.pointer (some ⟨r, 0, none⟩), .string nm] w fun x w' => x = .returned (.int .i64 (kE off nm)) ∧ Below w.heap.size w w' := by
  have hne := kE_ne off nm
  have HK := hid (known_z h nm hs)
  obtain ⟨q, hq⟩ : ∃ q, q = kE off nm := ⟨_, rfl⟩
  rw [← hq] at hne HK ⊢
  clear h hq
  go_enter Tryz.func58, Tryz.ntmps58
  go_wp2_with (go_at_call 103; refine HK.out.mono ?_; rintro e w1 ⟨rfl, hb⟩; have HB := hid hb; clear hb)
  go_ret
  exact ⟨rfl, HB.out⟩

set_option maxRecDepth 100000 in
set_option maxHeartbeats 800000 in
theorem rread_z (nm : ByteArray) (h : RB w r sv rv cs off) (hs : nm.size ≤ maxLen) : Calls Tryz.prog 59 #[.pointer (some ⟨r, 0, none⟩), .string nm] w fun x w' => x = .returned (.tuple #[.slice none 0 0, .int .i64 (kE off nm)]) ∧ Below w.heap.size w w' := by
  have hne := kE_ne off nm
  have HK := hid (known_z h nm hs)
  obtain ⟨q, hq⟩ : ∃ q, q = kE off nm := ⟨_, rfl⟩
  rw [← hq] at hne HK ⊢
  clear h hq
  go_enter Tryz.func59, Tryz.ntmps59
  go_wp2_with (go_at_call 103; refine HK.out.mono ?_; rintro e w1 ⟨rfl, hb⟩; have HB := hid hb; clear hb)
  go_ret2
  exact ⟨rfl, HB.out⟩

set_option maxRecDepth 100000 in
set_option maxHeartbeats 1600000 in
theorem rrename_z (nm mn : ByteArray) (h : RB w r sv rv cs off) (hs : nm.size ≤ maxLen) (hs1 : mn.size ≤ maxLen) : Calls Tryz.prog 57 #[.pointer (some ⟨r, 0, none⟩), .string nm, .string mn] w fun x w' => x = .returned (.int .i64 (rnE off nm mn)) ∧ Below w.heap.size w w' := by
  have HK := hid (known_z h nm hs)
  clear h
  cases off
  · cases hok : nmOK nm
    · have e1 : kE false nm = 5 := by simp [kE, hok]
      have e2 : rnE false nm mn = 5 := by simp [rnE, hok]
      rw [e2]
      rw [e1] at HK
      clear e1 e2
      go_enter Tryz.func57, Tryz.ntmps57
      go_wp2_with (go_at_call 103; refine HK.out.mono ?_; rintro e w1 ⟨rfl, hb⟩; have HB := hid hb; clear hb)
      go_ret
      exact ⟨rfl, HB.out⟩
    · have e1 : kE false nm = 6 := by simp [kE, hok]
      rw [e1] at HK
      cases hok1 : nmOK mn
      · have e2 : rnE false nm mn = 5 := by simp [rnE, hok1]
        rw [e2]
        clear e1 e2
        go_enter Tryz.func57, Tryz.ntmps57
        go_wp2_with (first
          | (go_at_call 103; refine HK.out.mono ?_; rintro e w1 ⟨rfl, hb⟩; have HB := hid hb; clear hb)
          | (go_at_call 108; refine (risName_any mn _ hs1).mono ?_; rw [hok1]; rintro e w' ⟨rfl, rfl⟩))
        go_ret
        exact ⟨rfl, HB.out⟩
      · have e2 : rnE false nm mn = 6 := by simp [rnE, hok, hok1]
        rw [e2]
        clear e1 e2
        go_enter Tryz.func57, Tryz.ntmps57
        go_wp2_with (first
          | (go_at_call 103; refine HK.out.mono ?_; rintro e w1 ⟨rfl, hb⟩; have HB := hid hb; clear hb)
          | (go_at_call 108; refine (risName_any mn _ hs1).mono ?_; rw [hok1]; rintro e w' ⟨rfl, rfl⟩))
        go_ret
        exact ⟨rfl, HB.out⟩
  · have e1 : kE true nm = 11 := by simp [kE]
    have e2 : rnE true nm mn = 11 := by simp [rnE]
    rw [e2]
    rw [e1] at HK
    clear e1 e2
    go_enter Tryz.func57, Tryz.ntmps57
    go_wp2_with (go_at_call 103; refine HK.out.mono ?_; rintro e w1 ⟨rfl, hb⟩; have HB := hid hb; clear hb)
    go_ret
    exact ⟨rfl, HB.out⟩

end
end Go.Proofs.YtlmompdfombgeaaGreat
