import Derived.Test.YtlmompdfombgeaaGreatK14
namespace Go.Proofs.YtlmompdfombgeaaGreat
open Go.RowKit Go.MapKept

theorem kE_ne (off : Bool) (nm : ByteArray) : (kE off nm == 0) = false := by
  unfold kE
  cases off <;> cases nmOK nm <;> rfl

/-- What two names answer on a disk without files. -/
def rnE (off : Bool) (nm mn : ByteArray) : Int := if off then 11 else if nmOK nm && nmOK mn then 6 else 5
theorem rnE_ne (off : Bool) (nm mn : ByteArray) : (rnE off nm mn == 0) = false := by
  unfold rnE
  cases off <;> cases (nmOK nm && nmOK mn) <;> rfl

section
variable {w : World} {d : Nat} {off : Bool} {cs : Int} {fs : List (Int × Int)}

/-- A stroke that wants a file. -/
theorem stroke_z1 (g fn : Nat) (nm : ByteArray) (sz : Int) (cap : Array Value) (h : ZD w d off cs fs) (hg : w.cell? ⟨g, 0, none⟩ = some (.string nm)) (hs : nm.size ≤ maxLen) :
    Calls Tryz.prog 76 #[.pointer (some ⟨d, 0, none⟩), .agg #[.slice (some ⟨g, 0, none⟩) 1 1, .bool false, .int .i64 sz], .func (.func fn) #[] cap] w fun x w' => x = .returned (.int .i64 (kE off nm)) ∧ Below w.heap.size w w' := by
  have hba : Below w.heap.size w (w.alloc (.cells #[.slice (some ⟨g, 0, none⟩) 1 1, .bool false, .int .i64 sz] 104)) := (Below.refl _ _).alloc (Nat.le_refl _) _
  obtain ⟨L, k1, k2, hd, hL, hk⟩ := h.below hba
  obtain ⟨c0, c1, c2, c3, c4, c5, c6, c7, c8, c9, c10, c11⟩ := hd.cells
  refine stroke_no d fn _ _ _ (.pointer none) cap (kE off nm) w (fun w1 => Below w.heap.size w w1) (kE_ne off nm) rfl rfl rfl ?_
  cases off
  · refine (find_nil1 d g nm false sz _ c7 c4 ((hba.cell (World.block_lt_of_cell? _ _ hg)).trans hg) hs).mono ?_
    rintro e w1 ⟨rfl, hb⟩
    exact ⟨by simp [kE], hba.trans (hb.mono (by simp))⟩
  · refine (find_off d _ _ _ _ c7 rfl rfl rfl).mono ?_
    rintro e w1 ⟨rfl, hb⟩
    exact ⟨by simp [kE], hba.trans (hb.mono (by simp))⟩

theorem stroke_z2 (g fn : Nat) (nm mn : ByteArray) (cap : Array Value) (h : ZD w d off cs fs) (hg : w.cell? ⟨g, 0, none⟩ = some (.string nm)) (hg1 : w.cell? ⟨g, 1, none⟩ = some (.string mn)) (hs : nm.size ≤ maxLen) (hs1 : mn.size ≤ maxLen) :
    Calls Tryz.prog 76 #[.pointer (some ⟨d, 0, none⟩), .agg #[.slice (some ⟨g, 0, none⟩) 2 2, .bool false, .int .i64 0], .func (.func fn) #[] cap] w fun x w' => x = .returned (.int .i64 (rnE off nm mn)) ∧ Below w.heap.size w w' := by
  have hba : Below w.heap.size w (w.alloc (.cells #[.slice (some ⟨g, 0, none⟩) 2 2, .bool false, .int .i64 0] 104)) := (Below.refl _ _).alloc (Nat.le_refl _) _
  obtain ⟨L, k1, k2, hd, hL, hk⟩ := h.below hba
  obtain ⟨c0, c1, c2, c3, c4, c5, c6, c7, c8, c9, c10, c11⟩ := hd.cells
  refine stroke_no d fn _ _ _ (.pointer none) cap (rnE off nm mn) w (fun w1 => Below w.heap.size w w1) (rnE_ne off nm mn) rfl rfl rfl ?_
  cases off
  · refine (find_nil2 d g nm mn _ c7 c4 ((hba.cell (World.block_lt_of_cell? _ _ hg)).trans hg) ((hba.cell (World.block_lt_of_cell? _ _ hg1)).trans hg1) hs hs1).mono ?_
    rintro e w1 ⟨rfl, hb⟩
    exact ⟨by simp [rnE], hba.trans (hb.mono (by simp))⟩
  · refine (find_off d _ _ _ _ c7 rfl rfl rfl).mono ?_
    rintro e w1 ⟨rfl, hb⟩
    exact ⟨by simp [rnE], hba.trans (hb.mono (by simp))⟩

set_option maxRecDepth 100000 in
set_option maxHeartbeats 1000000 in
theorem append_z (nm : ByteArray) (ao : Option Addr) (n c : Nat) (h : ZD w d off cs fs) (hs : nm.size ≤ maxLen) :
    Calls Tryz.prog 21 #[.pointer (some ⟨d, 0, none⟩), .string nm, .slice ao n c] w fun x w' => x = .returned (.int .i64 (kE off nm)) ∧ Below w.heap.size w w' := by
  have hmf : ∀ (fn : Fn) (first cap : Array Value) (w : World), (Instr.makeFunc fn first cap).run Tryz.prog w = .ok (.func fn first cap) w := fun _ _ _ _ => rfl
  have hdl := h.lt
  have H := hid h
  clear h
  go_enter Tryz.func21, Tryz.ntmps21
  go_wp2_with (
    go_at_call 76
    refine (stroke_z1 (w := _) _ _ nm 0 _ (H.out.below ((((Below.refl _ _).alloc (Nat.le_refl _) _).alloc (by simp) _).alloc (by simp; omega) _)) (by simp [go_sem]) hs).mono ?_
    rintro e w3 ⟨rfl, hx⟩
    have HX := hid hx
    clear hx)
  go_ret
  exact ⟨rfl, ((((Below.refl _ _).alloc (Nat.le_refl _) _).alloc (by simp) _).alloc (by simp; omega) _).trans (HX.out.mono (by simp; try omega))⟩

set_option maxRecDepth 100000 in
set_option maxHeartbeats 1000000 in
theorem truncate_z (nm : ByteArray) (sz : Int) (h : ZD w d off cs fs) (hs : nm.size ≤ maxLen) :
    Calls Tryz.prog 22 #[.pointer (some ⟨d, 0, none⟩), .string nm, .int .i64 sz] w fun x w' => x = .returned (.int .i64 (kE off nm)) ∧ Below w.heap.size w w' := by
  have hmf : ∀ (fn : Fn) (first cap : Array Value) (w : World), (Instr.makeFunc fn first cap).run Tryz.prog w = .ok (.func fn first cap) w := fun _ _ _ _ => rfl
  have hdl := h.lt
  have H := hid h
  clear h
  go_enter Tryz.func22, Tryz.ntmps22
  go_wp2_with (
    go_at_call 76
    refine (stroke_z1 (w := _) _ _ nm sz _ (H.out.below (((Below.refl _ _).alloc (Nat.le_refl _) _).alloc (by simp) _)) (by simp [go_sem]) hs).mono ?_
    rintro e w3 ⟨rfl, hx⟩
    have HX := hid hx
    clear hx)
  go_ret
  exact ⟨rfl, (((Below.refl _ _).alloc (Nat.le_refl _) _).alloc (by simp) _).trans (HX.out.mono (by simp; try omega))⟩

set_option maxRecDepth 100000 in
set_option maxHeartbeats 1000000 in
theorem sync_z (nm : ByteArray) (h : ZD w d off cs fs) (hs : nm.size ≤ maxLen) :
    Calls Tryz.prog 23 #[.pointer (some ⟨d, 0, none⟩), .string nm] w fun x w' => x = .returned (.int .i64 (kE off nm)) ∧ Below w.heap.size w w' := by
  have hmf : ∀ (fn : Fn) (first cap : Array Value) (w : World), (Instr.makeFunc fn first cap).run Tryz.prog w = .ok (.func fn first cap) w := fun _ _ _ _ => rfl
  have hdl := h.lt
  have H := hid h
  clear h
  go_enter Tryz.func23, Tryz.ntmps23
  go_wp2_with (
    go_at_call 76
    refine (stroke_z1 (w := _) _ _ nm 0 _ (H.out.below ((Below.refl _ _).alloc (Nat.le_refl _) _)) (by simp [go_sem]) hs).mono ?_
    rintro e w3 ⟨rfl, hx⟩
    have HX := hid hx
    clear hx)
  go_ret
  exact ⟨rfl, ((Below.refl _ _).alloc (Nat.le_refl _) _).trans (HX.out.mono (by simp; try omega))⟩

set_option maxRecDepth 100000 in
set_option maxHeartbeats 1000000 in
theorem rename_z (nm mn : ByteArray) (h : ZD w d off cs fs) (hs : nm.size ≤ maxLen) (hs1 : mn.size ≤ maxLen) :
    Calls Tryz.prog 25 #[.pointer (some ⟨d, 0, none⟩), .string nm, .string mn] w fun x w' => x = .returned (.int .i64 (rnE off nm mn)) ∧ Below w.heap.size w w' := by
  have hmf : ∀ (fn : Fn) (first cap : Array Value) (w : World), (Instr.makeFunc fn first cap).run Tryz.prog w = .ok (.func fn first cap) w := fun _ _ _ _ => rfl
  have hdl := h.lt
  have H := hid h
  clear h
  go_enter Tryz.func25, Tryz.ntmps25
  go_wp2_with (
    go_at_call 76
    refine (stroke_z2 (w := _) _ _ nm mn _ (H.out.below (((((Below.refl _ _).alloc (Nat.le_refl _) _).alloc (by simp) _).alloc (by simp; omega) _).alloc (by simp; omega) _)) (by simp [go_sem]) (by simp [go_sem]) hs hs1).mono ?_
    rintro e w3 ⟨rfl, hx⟩
    have HX := hid hx
    clear hx)
  go_ret
  exact ⟨rfl, (((((Below.refl _ _).alloc (Nat.le_refl _) _).alloc (by simp) _).alloc (by simp; omega) _).alloc (by simp; omega) _).trans (HX.out.mono (by simp; try omega))⟩

set_option maxRecDepth 100000 in
set_option maxHeartbeats 1000000 in
theorem remove_z (nm : ByteArray) (h : ZD w d off cs fs) (hs : nm.size ≤ maxLen) :
    Calls Tryz.prog 26 #[.pointer (some ⟨d, 0, none⟩), .string nm] w fun x w' => x = .returned (.int .i64 (kE off nm)) ∧ Below w.heap.size w w' := by
  have hmf : ∀ (fn : Fn) (first cap : Array Value) (w : World), (Instr.makeFunc fn first cap).run Tryz.prog w = .ok (.func fn first cap) w := fun _ _ _ _ => rfl
  have hdl := h.lt
  have H := hid h
  clear h
  go_enter Tryz.func26, Tryz.ntmps26
  go_wp2_with (
    go_at_call 76
    refine (stroke_z1 (w := _) _ _ nm 0 _ (H.out.below ((((Below.refl _ _).alloc (Nat.le_refl _) _).alloc (by simp) _).alloc (by simp; omega) _)) (by simp [go_sem]) hs).mono ?_
    rintro e w3 ⟨rfl, hx⟩
    have HX := hid hx
    clear hx)
  go_ret
  exact ⟨rfl, ((((Below.refl _ _).alloc (Nat.le_refl _) _).alloc (by simp) _).alloc (by simp; omega) _).trans (HX.out.mono (by simp; try omega))⟩

set_option maxRecDepth 100000 in
set_option maxHeartbeats 1000000 in
theorem read_z (nm : ByteArray) (h : ZD w d off cs fs) (hs : nm.size ≤ maxLen) :
    Calls Tryz.prog 15 #[.pointer (some ⟨d, 0, none⟩), .string nm] w fun x w' => x = .returned (.tuple #[.slice none 0 0, .int .i64 (kE off nm)]) ∧ Below w.heap.size w w' := by
  have hne := kE_ne off nm
  have hba : Below w.heap.size w (w.alloc (.cells #[.string nm] 9)) := (Below.refl _ _).alloc (Nat.le_refl _) _
  have hfind : Calls Tryz.prog 69 #[.pointer (some ⟨d, 0, none⟩), .agg #[.slice (some ⟨w.heap.size, 0, none⟩) 1 1, .bool false, .int .i64 0]] (w.alloc (.cells #[.string nm] 9)) fun x w' => x = .returned (.tuple #[.pointer none, .int .i64 (kE off nm)]) ∧ Below w.heap.size w w' := by
    obtain ⟨L, k1, k2, hd, hL, hk⟩ := h.below hba
    obtain ⟨c0, c1, c2, c3, c4, c5, c6, c7, c8, c9, c10, c11⟩ := hd.cells
    cases off
    · refine (find_nil1 d _ nm false 0 _ c7 c4 (by simp [go_sem]) hs).mono ?_
      rintro e w1 ⟨rfl, hb⟩
      exact ⟨by simp [kE], hba.trans (hb.mono (by simp))⟩
    · refine (find_off d _ _ _ _ c7 rfl rfl rfl).mono ?_
      rintro e w1 ⟨rfl, hb⟩
      exact ⟨by simp [kE], hba.trans (hb.mono (by simp))⟩
  have HF := hid hfind
  obtain ⟨q, hq⟩ : ∃ q, q = kE off nm := ⟨_, rfl⟩
  rw [← hq] at hne HF ⊢
  clear h hfind hba hq
  go_enter Tryz.func15, Tryz.ntmps15
  go_wp2_with (
    go_at_call 69
    refine HF.out.mono ?_
    rintro e w3 ⟨rfl, hx⟩
    have HX := hid hx
    clear hx)
  go_ret2
  exact ⟨rfl, HX.out⟩

set_option maxRecDepth 100000 in
set_option maxHeartbeats 1000000 in
theorem create1_z (xd xn : Nat) (f : Value) (h : ZD w d off cs fs) (hxd : w.cell? ⟨xd, 0, none⟩ = some (.pointer (some ⟨d, 0, none⟩))) :
    Calls Tryz.prog 77 #[f, .pointer (some ⟨xd, 0, none⟩), .pointer (some ⟨xn, 0, none⟩)] w fun x w' => x = .returned (.int .i64 9) ∧ Below w.heap.size w w' := by
  obtain ⟨L, k1, k2, hd, hL, hk⟩ := h
  obtain ⟨c0, c1, c2, c3, c4, c5, c6, c7, c8, c9, c10, c11⟩ := hd.cells
  have hlen : ∀ m ty, (Builtin.len_ #[46] ty #[L]).run Tryz.prog (w.drewN m) = .ok (.int .i64 0) (w.drewN m) := fun m ty => NoKinds.len (w := w.drewN m) hL ty
  clear hd hL hk
  go_enter Tryz.func77, Tryz.ntmps77
  go_wp2
  go_quiet (fail)
  go_wp2
  go_ret
  exact ⟨rfl, below_drewN (Below.refl _ _) _⟩

set_option maxRecDepth 100000 in
set_option maxHeartbeats 1600000 in
theorem create_z (nm : ByteArray) (h : ZD w d off cs fs) (hs : nm.size ≤ maxLen) (h0 : 0 ≤ cs) (h1 : cs ≤ 1000000) :
    Calls Tryz.prog 20 #[.pointer (some ⟨d, 0, none⟩), .string nm] w fun x w' => x = .returned (.int .i64 (crP off nm cs fs).1) ∧ ZD w' d (crP off nm cs fs).2.1 (crP off nm cs fs).2.2 fs ∧ Kept (fun k => k = d) w w' := by
  have hmf : ∀ (fn : Fn) (first cap : Array Value) (w : World), (Instr.makeFunc fn first cap).run Tryz.prog w = .ok (.func fn first cap) w := fun _ _ _ _ => rfl
  have hcall : Calls Tryz.prog 76 #[.pointer (some ⟨d, 0, none⟩), .agg #[.slice (some ⟨w.heap.size + 1 + 1, 0, none⟩) 1 1, .bool true, .int .i64 0], .func (.func 77) #[] #[.pointer (some ⟨w.heap.size, 0, none⟩), .pointer (some ⟨w.heap.size + 1, 0, none⟩)]]
      (((w.alloc (.cells #[.pointer (some ⟨d, 0, none⟩)] 22)).alloc (.cells #[.string nm] 9)).alloc (.cells #[.string nm] 9)) fun x w' => x = .returned (.int .i64 (crP off nm cs fs).1) ∧ ZD w' d (crP off nm cs fs).2.1 (crP off nm cs fs).2.2 fs ∧ Kept (fun k => k = d) w w' := by
    have hb0 : Below w.heap.size w (((w.alloc (.cells #[.pointer (some ⟨d, 0, none⟩)] 22)).alloc (.cells #[.string nm] 9)).alloc (.cells #[.string nm] 9)) := (((Below.refl _ _).alloc (Nat.le_refl _) _).alloc (by simp) _).alloc (by simp; omega) _
    have hdl := h.lt
    have g0 : (((w.alloc (.cells #[.pointer (some ⟨d, 0, none⟩)] 22)).alloc (.cells #[.string nm] 9)).alloc (.cells #[.string nm] 9)).cell? ⟨w.heap.size, 0, none⟩ = some (.pointer (some ⟨d, 0, none⟩)) := by simp [go_sem]
    have g2 : (((w.alloc (.cells #[.pointer (some ⟨d, 0, none⟩)] 22)).alloc (.cells #[.string nm] 9)).alloc (.cells #[.string nm] 9)).cell? ⟨w.heap.size + 1 + 1, 0, none⟩ = some (.string nm) := by simp [go_sem]
    have hsz : (((w.alloc (.cells #[.pointer (some ⟨d, 0, none⟩)] 22)).alloc (.cells #[.string nm] 9)).alloc (.cells #[.string nm] 9)).heap.size = w.heap.size + 3 := by simp
    obtain ⟨W, hW⟩ : ∃ W, W = (((w.alloc (.cells #[.pointer (some ⟨d, 0, none⟩)] 22)).alloc (.cells #[.string nm] 9)).alloc (.cells #[.string nm] 9)) := ⟨_, rfl⟩
    rw [← hW] at hb0 g0 g2 hsz ⊢
    clear hW
    have hZ := h.below hb0
    have kW : Kept (fun k => k = d) w W := (Kept.ofBelow hb0).mono (fun _ _ e => e.elim)
    have hba : Below W.heap.size W (W.alloc (.cells #[.slice (some ⟨w.heap.size + 1 + 1, 0, none⟩) 1 1, .bool true, .int .i64 0] 104)) := (Below.refl _ _).alloc (Nat.le_refl _) _
    have hg := (hba.cell (World.block_lt_of_cell? _ _ g2)).trans g2
    by_cases hk : kE off nm = 6
    · have hoff : off = false ∧ nmOK nm = true := by
        unfold kE at hk
        revert hk
        cases off <;> cases nmOK nm <;> simp
      obtain ⟨rfl, hok⟩ := hoff
      have hfind : Calls Tryz.prog 69 #[.pointer (some ⟨d, 0, none⟩), .agg #[.slice (some ⟨w.heap.size + 1 + 1, 0, none⟩) 1 1, .bool true, .int .i64 0]] (W.alloc (.cells #[.slice (some ⟨w.heap.size + 1 + 1, 0, none⟩) 1 1, .bool true, .int .i64 0] 104)) fun x w1 => x = .returned (.tuple #[.pointer none, .int .i64 0]) ∧ Below W.heap.size W w1 := by
        obtain ⟨L, k1, k2, hd, hL, hk⟩ := hZ.below hba
        obtain ⟨c0, c1, c2, c3, c4, c5, c6, c7, c8, c9, c10, c11⟩ := hd.cells
        refine (find_nil1 d _ nm true 0 _ c7 c4 hg hs).mono ?_
        rintro e w1 ⟨rfl, hb⟩
        exact ⟨by simp [hok], hba.trans (hb.mono (by simp))⟩
      have hcr : crP false nm cs fs = (if fe (fo fs (cs + 1)) = 0 then 9 else fe (fo fs (cs + 1)), decide (fo fs (cs + 1) = 1), cs + 1) := by unfold crP; rw [if_pos hk]
      rw [hcr]
      dsimp only
      have hcount : ∀ w1, Below W.heap.size W w1 → Calls Tryz.prog 70 #[.pointer (some ⟨d, 0, none⟩), .pointer (some ⟨d, 8, none⟩)] w1 fun x w2 => x = .returned (.int .i64 (fe (fo fs (cs + 1)))) ∧ ZD w2 d (decide (fo fs (cs + 1) = 1)) (cs + 1) fs ∧ Kept (fun k => k = d) W w2 := by
        intro w1 hb
        refine (count_z d cs fs w1 (hZ.below hb) h0 (by omega)).mono ?_
        rintro e w2 ⟨rfl, hz2, hk2⟩
        exact ⟨rfl, hz2, ((Kept.ofBelow hb).mono (S' := fun k => k = d) (fun _ _ e => e.elim)).trans hk2 (fun _ _ e => e)⟩
      by_cases he : fe (fo fs (cs + 1)) = 0
      · rw [if_pos he]
        rw [he] at hcount
        refine stroke_ok d 77 _ _ _ (.pointer none) _ 9 W (fun w1 => Below W.heap.size W w1) (fun w2 => ZD w2 d (decide (fo fs (cs + 1) = 1)) (cs + 1) fs ∧ Kept (fun k => k = d) W w2) _ (enters_of Tryz.func77 (by kernel_rfl) rfl) rfl rfl rfl hfind hcount ?_
        rintro w2 ⟨hz2, hk2⟩
        refine (create1_z w.heap.size (w.heap.size + 1) (.pointer none) hz2 (hk2.cell g0 (fun e => by simp at e; omega))).mono ?_
        rintro e w3 ⟨rfl, hb3⟩
        exact ⟨rfl, hz2.below hb3, (kW.trans hk2 (fun _ _ e => e)).trans (Kept.ofBelow hb3) (fun _ _ e => e.elim)⟩
      · rw [if_neg he]
        refine (stroke_bad d 77 _ _ _ (.pointer none) _ _ W (fun w1 => Below W.heap.size W w1) (fun w2 => ZD w2 d (decide (fo fs (cs + 1) = 1)) (cs + 1) fs ∧ Kept (fun k => k = d) W w2) (by simpa using he) rfl rfl rfl hfind hcount).mono ?_
        rintro e w2 ⟨rfl, hz2, hk2⟩
        exact ⟨rfl, hz2, kW.trans hk2 (fun _ _ e => e)⟩
    · have hcr : crP off nm cs fs = (kE off nm, off, cs) := by unfold crP; rw [if_neg hk]
      rw [hcr]
      dsimp only
      refine stroke_no d 77 _ _ _ (.pointer none) _ (kE off nm) W (fun w1 => ZD w1 d off cs fs ∧ Kept (fun k => k = d) w w1) (kE_ne off nm) rfl rfl rfl ?_
      have fin : ∀ w1, Below W.heap.size W w1 → ZD w1 d off cs fs ∧ Kept (fun k => k = d) w w1 := fun w1 hb => ⟨hZ.below hb, kW.trans (Kept.ofBelow hb) (fun _ _ e => e.elim)⟩
      obtain ⟨L, k1, k2, hd, hL, hk3⟩ := hZ.below hba
      obtain ⟨c0, c1, c2, c3, c4, c5, c6, c7, c8, c9, c10, c11⟩ := hd.cells
      cases off
      · have hok : nmOK nm = false := by
          cases hq : nmOK nm
          · rfl
          · exact absurd (by simp [kE, hq]) hk
        refine (find_nil1 d _ nm true 0 _ c7 c4 hg hs).mono ?_
        rintro e w1 ⟨rfl, hb⟩
        exact ⟨by simp [kE, hok], fin w1 (hba.trans (hb.mono (by simp)))⟩
      · refine (find_off d _ _ _ _ c7 rfl rfl rfl).mono ?_
        rintro e w1 ⟨rfl, hb⟩
        exact ⟨by simp [kE], fin w1 (hba.trans (hb.mono (by simp)))⟩
  have HC := hid hcall
  clear h hcall
  go_enter Tryz.func20, Tryz.ntmps20
  go_wp2_with (
    go_at_call 76
    refine HC.out.mono ?_
    rintro e w3 ⟨rfl, hx⟩
    have HX := hid hx
    clear hx)
  go_ret
  exact ⟨rfl, HX.out⟩

set_option maxRecDepth 100000 in
set_option maxHeartbeats 1600000 in
theorem syncNames1_z (f : Value) (xd : Nat) (h : ZD w d off cs fs) (hxd : w.cell? ⟨xd, 0, none⟩ = some (.pointer (some ⟨d, 0, none⟩))) :
    Calls Tryz.prog 85 #[f, .pointer (some ⟨xd, 0, none⟩)] w fun x w' => x = .returned (.int .i64 0) ∧ ZD w' d off cs fs ∧ Kept (fun k => k = d) w w' := by
  obtain ⟨L, k1, k2, hd, hL, hk⟩ := id h
  obtain ⟨c0, c1, c2, c3, c4, c5, c6, c7, c8, c9, c10, c11⟩ := hd.cells
  have hcall := settle_z (w := w.drew) (h.kept (w' := w.drew) (S := fun _ => False) ⟨rfl, rfl, rfl, Nat.le_refl _, fun _ _ _ => rfl⟩ (fun e => e) (fun _ _ _ _ e => e))
  have HC := hid hcall
  clear h hcall hd hL hk
  go_enter Tryz.func85, Tryz.ntmps85
  go_wp2_with fail
  go_region_with (
    go_at_call 86
    refine HC.out.mono ?_
    rintro e w2 ⟨rfl, hx⟩
    have HX := hid hx
    clear hx)
  all_goals
    go_wp2
    go_ret
    obtain ⟨q1, q2⟩ := HX.out
    exact ⟨rfl, q1, ⟨q2.os, q2.tape, q2.output, q2.size, q2.block⟩⟩

set_option maxRecDepth 100000 in
set_option maxHeartbeats 1600000 in
theorem syncNames_z (h : ZD w d off cs fs) (h0 : 0 ≤ cs) (h1 : cs ≤ 1000000) :
    Calls Tryz.prog 24 #[.pointer (some ⟨d, 0, none⟩)] w fun x w' => x = .returned (.int .i64 (snP off cs fs).1) ∧ ZD w' d (snP off cs fs).2.1 (snP off cs fs).2.2 fs ∧ Kept (fun k => k = d) w w' := by
  have hmf : ∀ (fn : Fn) (first cap : Array Value) (w : World), (Instr.makeFunc fn first cap).run Tryz.prog w = .ok (.func fn first cap) w := fun _ _ _ _ => rfl
  have hcall : Calls Tryz.prog 76 #[.pointer (some ⟨d, 0, none⟩), .agg #[.slice none 0 0, .bool false, .int .i64 0], .func (.func 85) #[] #[.pointer (some ⟨w.heap.size, 0, none⟩)]]
      (w.alloc (.cells #[.pointer (some ⟨d, 0, none⟩)] 22)) fun x w' => x = .returned (.int .i64 (snP off cs fs).1) ∧ ZD w' d (snP off cs fs).2.1 (snP off cs fs).2.2 fs ∧ Kept (fun k => k = d) w w' := by
    have hb0 : Below w.heap.size w (w.alloc (.cells #[.pointer (some ⟨d, 0, none⟩)] 22)) := (Below.refl _ _).alloc (Nat.le_refl _) _
    have g0 : (w.alloc (.cells #[.pointer (some ⟨d, 0, none⟩)] 22)).cell? ⟨w.heap.size, 0, none⟩ = some (.pointer (some ⟨d, 0, none⟩)) := by simp [go_sem]
    have hdl := h.lt
    have hsz : (w.alloc (.cells #[.pointer (some ⟨d, 0, none⟩)] 22)).heap.size = w.heap.size + 1 := by simp
    obtain ⟨W, hW⟩ : ∃ W, W = w.alloc (.cells #[.pointer (some ⟨d, 0, none⟩)] 22) := ⟨_, rfl⟩
    rw [← hW] at hb0 g0 hsz ⊢
    clear hW
    have hZ := h.below hb0
    have kW : Kept (fun k => k = d) w W := (Kept.ofBelow hb0).mono (fun _ _ e => e.elim)
    have hba : Below W.heap.size W (W.alloc (.cells #[.slice none 0 0, .bool false, .int .i64 0] 104)) := (Below.refl _ _).alloc (Nat.le_refl _) _
    obtain ⟨L, k1, k2, hd, hL, hk3⟩ := hZ.below hba
    obtain ⟨c0, c1, c2, c3, c4, c5, c6, c7, c8, c9, c10, c11⟩ := hd.cells
    cases off
    · have hfind : Calls Tryz.prog 69 #[.pointer (some ⟨d, 0, none⟩), .agg #[.slice none 0 0, .bool false, .int .i64 0]] (W.alloc (.cells #[.slice none 0 0, .bool false, .int .i64 0] 104)) fun x w1 => x = .returned (.tuple #[.pointer none, .int .i64 0]) ∧ Below W.heap.size W w1 := by
        refine (find_plain d _ c7).mono ?_
        rintro e w1 ⟨rfl, hb⟩
        exact ⟨rfl, hba.trans (hb.mono (by simp))⟩
      have hcount : ∀ w1, Below W.heap.size W w1 → Calls Tryz.prog 70 #[.pointer (some ⟨d, 0, none⟩), .pointer (some ⟨d, 8, none⟩)] w1 fun x w2 => x = .returned (.int .i64 (fe (fo fs (cs + 1)))) ∧ ZD w2 d (decide (fo fs (cs + 1) = 1)) (cs + 1) fs ∧ Kept (fun k => k = d) W w2 := by
        intro w1 hb
        refine (count_z d cs fs w1 (hZ.below hb) h0 (by omega)).mono ?_
        rintro e w2 ⟨rfl, hz2, hk2⟩
        exact ⟨rfl, hz2, ((Kept.ofBelow hb).mono (S' := fun k => k = d) (fun _ _ e => e.elim)).trans hk2 (fun _ _ e => e)⟩
      have hsn : snP false cs fs = (fe (fo fs (cs + 1)), decide (fo fs (cs + 1) = 1), cs + 1) := by simp [snP]
      rw [hsn]
      dsimp only
      by_cases he : fe (fo fs (cs + 1)) = 0
      · rw [he] at hcount ⊢
        refine stroke_ok d 85 _ _ _ (.pointer none) _ 0 W (fun w1 => Below W.heap.size W w1) (fun w2 => ZD w2 d (decide (fo fs (cs + 1) = 1)) (cs + 1) fs ∧ Kept (fun k => k = d) W w2) _ (enters_of Tryz.func85 (by kernel_rfl) rfl) rfl rfl rfl hfind hcount ?_
        rintro w2 ⟨hz2, hk2⟩
        refine (syncNames1_z (.pointer none) w.heap.size hz2 (hk2.cell g0 (fun e => by simp at e; omega))).mono ?_
        rintro e w3 ⟨rfl, hz3, hk3⟩
        exact ⟨rfl, hz3, (kW.trans hk2 (fun _ _ e => e)).trans hk3 (fun _ _ e => e)⟩
      · refine (stroke_bad d 85 _ _ _ (.pointer none) _ _ W (fun w1 => Below W.heap.size W w1) (fun w2 => ZD w2 d (decide (fo fs (cs + 1) = 1)) (cs + 1) fs ∧ Kept (fun k => k = d) W w2) (by simpa using he) rfl rfl rfl hfind hcount).mono ?_
        rintro e w2 ⟨rfl, hz2, hk2⟩
        exact ⟨rfl, hz2, kW.trans hk2 (fun _ _ e => e)⟩
    · have hsn : snP true cs fs = (11, true, cs) := by simp [snP]
      rw [hsn]
      dsimp only
      refine stroke_no d 85 _ _ _ (.pointer none) _ 11 W (fun w1 => ZD w1 d true cs fs ∧ Kept (fun k => k = d) w w1) rfl rfl rfl rfl ?_
      refine (find_off d _ _ _ _ c7 rfl rfl rfl).mono ?_
      rintro e w1 ⟨rfl, hb⟩
      have hb' := hba.trans (hb.mono (by simp))
      exact ⟨rfl, hZ.below hb', kW.trans (Kept.ofBelow hb') (fun _ _ e => e.elim)⟩
  have HC := hid hcall
  clear h hcall
  go_enter Tryz.func24, Tryz.ntmps24
  go_wp2_with (
    go_at_call 76
    refine HC.out.mono ?_
    rintro e w3 ⟨rfl, hx⟩
    have HX := hid hx
    clear hx)
  go_ret
  exact ⟨rfl, HX.out⟩

end
end Go.Proofs.YtlmompdfombgeaaGreat
