import Derived.Test.YtlmompdfombgeaaGreatD1
namespace Go.Proofs.YtlmompdfombgeaaGreat
open Go.RowKit Go.MapKept

/-- A map of faults that plans nothing. -/
def NoKinds (w : World) (k : Value) : Prop := k = .map none ∨ ∃ b c, k = .map (some b) ∧ w.heap[b]? = some (.map #[] c)

theorem NoKinds.look {w : World} {k : Value} (h : NoKinds w k) (n : Int) : (Instr.lookup 49 k (.int .i64 n) false).run Tryz.prog w = .ok (.int .i64 0) w := by
  have hz : (zeroValue 3).run Tryz.prog w = .ok (.int .i64 0) w := by kernel_rfl
  rcases h with rfl | ⟨b, c, rfl, hb⟩
  · exact look_nil Tryz.underlying49 Tryz.underlying3 (key_int n) hz false
  · exact look_none Tryz.underlying49 Tryz.underlying3 hb (key_int n) hz rfl false

theorem NoKinds.kept {w w' : World} {k : Value} {S : Nat → Prop} (h : NoKinds w k) (hk : Kept S w w') (hS : ∀ b c, w.heap[b]? = some (.map #[] c) → ¬ S b) : NoKinds w' k := by
  rcases h with rfl | ⟨b, c, rfl, hb⟩
  · exact .inl rfl
  · exact .inr ⟨b, c, rfl, hp_kept hb hk (hS b c hb)⟩

set_option maxRecDepth 100000 in
set_option maxHeartbeats 1000000 in
/-- A stroke, or a reading, that is counted, and no fault. -/
theorem count_any (d o : Nat) (n : Int) (k : Value) (w : World) (cs : Array Value) (t : TypeId) (hd : w.heap[d]? = some (.cells cs t (0, 0))) (c0 : w.cell? ⟨d, o, none⟩ = some (.int .i64 n)) (c1 : w.cell? ⟨d, o + 1, none⟩ = some k) (hn0 : 0 ≤ n) (hn : n ≤ 1000000000) (hk : NoKinds w k) :
    Calls Tryz.prog 70 #[.pointer (some ⟨d, 0, none⟩), .pointer (some ⟨d, o, none⟩)] w fun x w' => ∃ nq, x = .returned (.int .i64 0) ∧ w' = (w.setCell ⟨d, o, none⟩ (.int .i64 (n + 1))).drewN nq := by
  have ff : ∀ i, w.frozen? ⟨d, i, none⟩ = false := fun i => free_of_block hd
  have hk2 : NoKinds (w.setCell ⟨d, o, none⟩ (.int .i64 (n + 1))) k := hk.kept (S := fun k => k = d) ((Kept.refl (fun k => k = d) w).setCell (p := ⟨d, o, none⟩) (fun _ => rfl) _) (fun b c hb e => by subst e; rw [hd] at hb; cases hb)
  have hl : ∀ m, (Instr.lookup 49 k (.int .i64 (n + 1)) false).run Tryz.prog ((w.setCell ⟨d, o, none⟩ (.int .i64 (n + 1))).drewN m) = .ok (.int .i64 0) ((w.setCell ⟨d, o, none⟩ (.int .i64 (n + 1))).drewN m) := fun m => NoKinds.look (w := (w.setCell ⟨d, o, none⟩ (.int .i64 (n + 1))).drewN m) hk2 _
  clear hk hk2 hd
  go_enter Tryz.func70, Tryz.ntmps70
  go_wp2
  go_quiet (fail)
  go_wp2
  go_ret
  exact ⟨nq, rfl, rfl⟩

/-- Is it a name? -/
def nmOK (s : ByteArray) : Bool := decide (1 ≤ s.size) && decide (s.size ≤ 40) && s.data.toList.all (fun c => decide (33 ≤ c.toNat) && decide (c.toNat ≤ 126))

theorem take_snocB (s : ByteArray) (k : Nat) (h : k < s.size) : s.data.toList.take (k + 1) = s.data.toList.take k ++ [s[k]] := by
  rw [List.take_succ_eq_append_getElem (by simpa using h)]; rfl

set_option maxRecDepth 100000 in
set_option maxHeartbeats 1000000 in
theorem isName_any (s : ByteArray) (w : World) (hs : s.size ≤ maxLen) : Calls Tryz.prog 89 #[.string s] w fun x w' => x = .returned (.bool (nmOK s)) ∧ w' = w := by
  unfold maxLen at hs
  obtain ⟨r, hr⟩ : ∃ r, r = nmOK s := ⟨_, rfl⟩
  rw [← hr]
  have HR := hid hr
  clear hr
  by_cases h1 : (s.size : Int) < 1
  · have Hr := hid (show nmOK s = false by have : ¬ 1 ≤ s.size := by omega
                                           simp [nmOK, this])
    go_enter Tryz.func89, Tryz.ntmps89
    go_wp2
    go_ret
    exact ⟨by rw [HR.out, Hr.out]; rfl, rfl⟩
  · by_cases h2 : 40 < (s.size : Int)
    · have Hr := hid (show nmOK s = false by have : ¬ s.size ≤ 40 := by omega
                                             simp [nmOK, this])
      go_enter Tryz.func89, Tryz.ntmps89
      go_wp2
      go_ret
      exact ⟨by rw [HR.out, Hr.out]; rfl, rfl⟩
    · go_enter Tryz.func89, Tryz.ntmps89
      go_wp2
      go_loop [3, 14] (fun _ i => ∃ k : Nat, k ≤ s.size ∧ i = .int .i64 k ∧ Hid ((s.data.toList.take k).all (fun c => decide (33 ≤ c.toNat) && decide (c.toNat ≤ 126)) = true)) (fun _ i => s.size - (intOf i).toNat)
      case atStart => exact ⟨0, Nat.zero_le _, rfl, hid (by simp)⟩
      case round =>
        obtain ⟨k, hk, rfl, hall⟩ := hrel
        by_cases hlt : k < s.size
        · by_cases hgo : 33 ≤ s[k].toNat ∧ s[k].toNat ≤ 126
          · obtain ⟨g1, g2⟩ := hgo
            have HN := hid (show (s.data.toList.take (k + 1)).all (fun c => decide (33 ≤ c.toNat) && decide (c.toNat ≤ 126)) = true by rw [take_snocB s k hlt, List.all_append, hall.out]; simp [g1, g2])
            have j1 : ¬ ((s[k].toNat : Int) < 33) := by omega
            have j2 : ¬ (126 < (s[k].toNat : Int)) := by omega
            go_wp2
            go_round
            case rel => exact ⟨k + 1, by omega, by go_num, HN⟩
            case measure => simp [intOf]; omega
          · have Hr := hid (show nmOK s = false by
              have hm : s[k] ∈ s.data.toList := by
                have : s[k] ∈ s.data.toList.take (k + 1) := by rw [take_snocB s k hlt]; simp
                exact List.mem_of_mem_take this
              have hf : s.data.toList.all (fun c => decide (33 ≤ c.toNat) && decide (c.toNat ≤ 126)) = false := by
                rw [Bool.eq_false_iff]
                intro h
                have := List.all_eq_true.1 h _ hm
                simp at this
                exact hgo this
              simp [nmOK, hf])
            by_cases j1 : (s[k].toNat : Int) < 33
            · go_wp2
              go_ret
              exact ⟨by rw [HR.out, Hr.out]; rfl, rfl⟩
            · have j2 : 126 < (s[k].toNat : Int) := by omega
              go_wp2
              go_ret
              exact ⟨by rw [HR.out, Hr.out]; rfl, rfl⟩
        · have Hr := hid (show nmOK s = true by
            have := hall.out
            rw [List.take_of_length_le (by simp; omega)] at this
            have a1 : 1 ≤ s.size := by omega
            have a2 : s.size ≤ 40 := by omega
            simp only [nmOK, this, a1, a2, decide_true, Bool.and_true])
          go_wp2
          go_ret
          exact ⟨by rw [HR.out, Hr.out]; rfl, rfl⟩

end Go.Proofs.YtlmompdfombgeaaGreat
