import Derived.Test.YtkalppcekmlgbabTa
namespace Go.Proofs.Ytkalppcekmlgbab
open Go.RowKit

/-- Does somebody touch a key? -/
def tcP (os gs : List ByteArray) (k : ByteArray) : Prop := k ∈ os.take 300 ∨ k ∈ gs.take 300

theorem mem_take {os : List ByteArray} {k : ByteArray} {j : Nat} (hj : j < os.length) (h3 : j < 300) (he : os[j] = k) : k ∈ os.take 300 := by
  rw [← he]
  exact List.mem_take_iff_getElem.2 ⟨j, by omega, rfl⟩
theorem not_mem_take {os : List ByteArray} {k : ByteArray} {m : Nat} (h : ∀ j (hj : j < os.length), j < m → os[j] ≠ k) (hm : os.length ≤ m ∨ 300 ≤ m) : k ∉ os.take 300 := by
  intro hk
  obtain ⟨j, hj, he⟩ := List.mem_take_iff_getElem.1 hk
  exact h j (by omega) (by omega) he

def TouP (os gs : List ByteArray) (key : ByteArray) (w : World) : Ending → World → Prop := fun x w' => (∃ r, x = .returned (.bool r) ∧ (r = true ↔ tcP os gs key)) ∧ w' = w

set_option maxRecDepth 100000 in
set_option maxHeartbeats 8000000 in
theorem touched_any (B : Nat) (ov gv : Value) (os gs : List ByteArray) (key : ByteArray) (w : World) (bo : w.heap[B]? = some (.cells #[ov] 22 (0, 0))) (bg : w.heap[B + 1]? = some (.cells #[gv] 22 (0, 0))) (ho : Rf w 1 ov os.length (os.map Value.string)) (hg : Rf w 1 gv gs.length (gs.map Value.string)) :
    Calls Try.prog 21 #[.string key, .pointer (some ⟨B, 0, none⟩), .pointer (some ⟨B + 1, 0, none⟩)] w (TouP os gs key w) := by
  have c0 := cells1 bo
  have c1 := cells1 bg
  obtain ⟨a1, q1, e1, -, -⟩ := ho.shape
  obtain ⟨a2, q2, e2, -, -⟩ := hg.shape
  have HA := hid (And.intro ho hg)
  subst e1 e2
  clear bo bg ho hg
  go_enter Try.func21, Try.ntmps21
  go_wp2
  go_loop [5] (fun i => ∃ k : Nat, i = .int .i64 k ∧ k ≤ os.length ∧ k ≤ 300 ∧ Hid (∀ j (hj : j < os.length), j < k → os[j] ≠ key)) (fun i => 300 - (intOf i).toNat)
  case atStart => exact ⟨0, rfl, Nat.zero_le _, Nat.zero_le _, hid (fun j hj h => by omega)⟩
  case round =>
    obtain ⟨k, rfl, hk, hk3, hno⟩ := hrel
    by_cases h12 : k < os.length ∧ k < 300
    · obtain ⟨h1, h2⟩ := h12
      have h2' : (k : Int) < 300 := by omega
      have h1' : (k : Int) < os.length := by omega
      obtain ⟨gb, off, cap', hbody2, -, -, hcell⟩ := HA.out.1.lits (by omega) (by omega)
      injection hbody2 with hb3 hb4 hb5
      subst hb3 hb5
      have v0 := hcell k (.string os[k]) (by rw [List.getElem?_map, List.getElem?_eq_getElem h1]; rfl)
      by_cases he : os[k] = key
      · have b0 : (os[k].toList == key.toList) = true := by rw [he]; simp
        have HT := hid (show tcP os gs key from .inl (mem_take h1 h2 he))
        generalize os[k] = ok at v0 b0
        clear hcell hb4 he
        go_wp2
        go_ret
        exact ⟨⟨true, rfl, fun _ => HT.out, fun _ => rfl⟩, rfl⟩
      · have b0 : (os[k].toList == key.toList) = false := keq_false he
        have HN := hid (show ∀ j (hj : j < os.length), j < k + 1 → os[j] ≠ key from fun j hj hjk => by
          by_cases hjk2 : j < k
          · exact hno.out j hj hjk2
          · have : j = k := by omega
            subst this
            exact he)
        generalize os[k] = ok at v0 b0
        clear hcell hb4 he
        go_wp2
        go_round
        case rel => exact ⟨k + 1, by go_num, by omega, by omega, HN⟩
        case measure => simp [intOf]; omega
    · have HN := hid (show key ∉ os.take 300 from not_mem_take hno.out (by omega))
      by_cases h1 : k < os.length
      · have h2' : ¬ (k : Int) < 300 := by omega
        clear h12
        go_wp2
        go_loop [6] (fun i => ∃ k2 : Nat, i = .int .i64 k2 ∧ k2 ≤ gs.length ∧ k2 ≤ 300 ∧ Hid (∀ j (hj : j < gs.length), j < k2 → gs[j] ≠ key)) (fun i => 300 - (intOf i).toNat)
        case atStart => exact ⟨0, rfl, Nat.zero_le _, Nat.zero_le _, hid (fun j hj h => by omega)⟩
        case round =>
          clear hk hk3 hno
          obtain ⟨k2, rfl, hk, hk3, hno⟩ := hrel
          by_cases h12 : k2 < gs.length ∧ k2 < 300
          · obtain ⟨h3, h4⟩ := h12
            have h4' : (k2 : Int) < 300 := by omega
            have h3' : (k2 : Int) < gs.length := by omega
            obtain ⟨gb, off, cap', hbody2, -, -, hcell⟩ := HA.out.2.lits (by omega) (by omega)
            injection hbody2 with hb3 hb4 hb5
            subst hb3 hb5
            have v0 := hcell k2 (.string gs[k2]) (by rw [List.getElem?_map, List.getElem?_eq_getElem h3]; rfl)
            by_cases he : gs[k2] = key
            · have b0 : (gs[k2].toList == key.toList) = true := by rw [he]; simp
              have HT := hid (show tcP os gs key from .inr (mem_take h3 h4 he))
              generalize gs[k2] = ok at v0 b0
              clear hcell hb4 he
              go_wp2
              go_ret
              exact ⟨⟨true, rfl, fun _ => HT.out, fun _ => rfl⟩, rfl⟩
            · have b0 : (gs[k2].toList == key.toList) = false := keq_false he
              have HN2 := hid (show ∀ j (hj : j < gs.length), j < k2 + 1 → gs[j] ≠ key from fun j hj hjk => by
                by_cases hjk2 : j < k2
                · exact hno.out j hj hjk2
                · have : j = k2 := by omega
                  subst this
                  exact he)
              generalize gs[k2] = ok at v0 b0
              clear hcell hb4 he
              go_wp2
              go_round
              case rel => exact ⟨k2 + 1, by go_num, by omega, by omega, HN2⟩
              case measure => simp [intOf]; omega
          · have HN2 := hid (show key ∉ gs.take 300 from not_mem_take hno.out (by omega))
            by_cases h3 : k2 < gs.length
            · have h4' : ¬ (k2 : Int) < 300 := by omega
              clear h12
              go_wp2
              go_ret
              exact ⟨⟨false, rfl, fun h => (by cases h), fun h => h.elim (fun h => absurd h HN.out) (fun h => absurd h HN2.out)⟩, rfl⟩
            · clear h12
              go_wp2
              go_ret
              exact ⟨⟨false, rfl, fun h => (by cases h), fun h => h.elim (fun h => absurd h HN.out) (fun h => absurd h HN2.out)⟩, rfl⟩
      · clear h12
        go_wp2
        go_loop [6] (fun i => ∃ k2 : Nat, i = .int .i64 k2 ∧ k2 ≤ gs.length ∧ k2 ≤ 300 ∧ Hid (∀ j (hj : j < gs.length), j < k2 → gs[j] ≠ key)) (fun i => 300 - (intOf i).toNat)
        case atStart => exact ⟨0, rfl, Nat.zero_le _, Nat.zero_le _, hid (fun j hj h => by omega)⟩
        case round =>
          clear hk hk3 hno
          obtain ⟨k2, rfl, hk, hk3, hno⟩ := hrel
          by_cases h12 : k2 < gs.length ∧ k2 < 300
          · obtain ⟨h3, h4⟩ := h12
            have h4' : (k2 : Int) < 300 := by omega
            have h3' : (k2 : Int) < gs.length := by omega
            obtain ⟨gb, off, cap', hbody2, -, -, hcell⟩ := HA.out.2.lits (by omega) (by omega)
            injection hbody2 with hb3 hb4 hb5
            subst hb3 hb5
            have v0 := hcell k2 (.string gs[k2]) (by rw [List.getElem?_map, List.getElem?_eq_getElem h3]; rfl)
            by_cases he : gs[k2] = key
            · have b0 : (gs[k2].toList == key.toList) = true := by rw [he]; simp
              have HT := hid (show tcP os gs key from .inr (mem_take h3 h4 he))
              generalize gs[k2] = ok at v0 b0
              clear hcell hb4 he
              go_wp2
              go_ret
              exact ⟨⟨true, rfl, fun _ => HT.out, fun _ => rfl⟩, rfl⟩
            · have b0 : (gs[k2].toList == key.toList) = false := keq_false he
              have HN2 := hid (show ∀ j (hj : j < gs.length), j < k2 + 1 → gs[j] ≠ key from fun j hj hjk => by
                by_cases hjk2 : j < k2
                · exact hno.out j hj hjk2
                · have : j = k2 := by omega
                  subst this
                  exact he)
              generalize gs[k2] = ok at v0 b0
              clear hcell hb4 he
              go_wp2
              go_round
              case rel => exact ⟨k2 + 1, by go_num, by omega, by omega, HN2⟩
              case measure => simp [intOf]; omega
          · have HN2 := hid (show key ∉ gs.take 300 from not_mem_take hno.out (by omega))
            by_cases h3 : k2 < gs.length
            · have h4' : ¬ (k2 : Int) < 300 := by omega
              clear h12
              go_wp2
              go_ret
              exact ⟨⟨false, rfl, fun h => (by cases h), fun h => h.elim (fun h => absurd h HN.out) (fun h => absurd h HN2.out)⟩, rfl⟩
            · clear h12
              go_wp2
              go_ret
              exact ⟨⟨false, rfl, fun h => (by cases h), fun h => h.elim (fun h => absurd h HN.out) (fun h => absurd h HN2.out)⟩, rfl⟩

end Go.Proofs.Ytkalppcekmlgbab
