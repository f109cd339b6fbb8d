import Derived.Test.YtlmompdfombgeaaGreatSl2
namespace Go.Proofs.YtlmompdfombgeaaGreat
open Go.RowKit

theorem drewN_drewN' (w : World) (n m : Nat) : (w.drewN n).drewN m = w.drewN (n + m) := by
  simp [World.drewN, Nat.add_assoc]

theorem take_eq_step (xs ys : List Int) (k : Nat) (ha : k < xs.length) (hb : k < ys.length) (h : xs.take k = ys.take k) : xs.take (k + 1) = ys.take (k + 1) ↔ xs[k] = ys[k] := by
  rw [List.take_succ_eq_append_getElem ha, List.take_succ_eq_append_getElem hb, h]
  constructor
  · intro h2
    have := List.append_cancel_left h2
    injection this
  · intro h2
    rw [h2]

/-- w' is w behind some draws. -/
def DN (w w' : World) : Prop := ∃ nq, w' = w.drewN nq
theorem DN.refl (w : World) : DN w w := ⟨0, rfl⟩
theorem DN.more {w w' : World} (h : DN w w') (n : Nat) : DN w (w'.drewN n) := by
  obtain ⟨k, rfl⟩ := h
  exact ⟨_, drewN_drewN' _ _ _⟩
theorem DN.cell {w w' : World} (h : DN w w') (a : Addr) : w'.cell? a = w.cell? a := by
  obtain ⟨k, rfl⟩ := h
  simp

set_option maxRecDepth 100000 in
set_option maxHeartbeats 800000 in
theorem bytes_any (a b : Value) (xs ys : List Int) (w : World) (ha : Sl w a xs) (hb : Sl w b ys) (hl : xs.length ≤ 1000000000) :
    Calls Tryz.prog 60 #[a, b] w fun x w' => DN w w' ∧ x = .returned (.bool (decide (xs = ys))) := by
  obtain ⟨r, hr⟩ : ∃ r, r = decide (xs = ys) := ⟨_, rfl⟩
  rw [← hr]
  have HR := hid hr
  clear hr
  obtain ⟨ao, acap, rfl, hac, hax⟩ := ha
  obtain ⟨bo, bcap, rfl, hbc, hbx⟩ := hb
  by_cases hlen : xs.length = ys.length
  · have hlen' : ((xs.length : Int) == (ys.length : Int)) = true := by simp [hlen]
    have Hl := hid hlen
    have HA := hid hax
    have HB := hid hbx
    have hbl : ys.length ≤ 1000000000 := by omega
    have hab : (xs.length : Int) ≤ (ys.length : Int) := by omega
    have hba : (ys.length : Int) ≤ (xs.length : Int) := by omega
    clear hlen hax hbx hlen'
    go_enter Tryz.func60, Tryz.ntmps60
    go_wp2
    go_loopw [5] (fun i wr => ∃ (k : Nat), k ≤ xs.length ∧ i = .int .i64 k ∧ DN w wr ∧ Hid (xs.take k = ys.take k)) (fun i _ => xs.length - (intOf i).toNat)
    case atStart => exact ⟨0, Nat.zero_le _, rfl, DN.refl w, hid (by simp)⟩
    case round =>
      obtain ⟨k, hk, rfl, hdn, hpre⟩ := hrel
      by_cases hlt : k < xs.length
      · obtain ⟨ab, aoff, rfl, haj⟩ := HA.out (by intro e; subst e; simp at hlt)
        obtain ⟨bb, boff, rfl, hbj⟩ := HB.out (fun e => by rw [e, List.length_nil] at hab; omega)
        have hlt2 : k < ys.length := by omega
        have ca := (hdn.cell _).trans (haj k xs[k] (by simp [hlt]))
        have cb := (hdn.cell _).trans (hbj k ys[k] (by simp [hlt2]))
        have hst := take_eq_step xs ys k hlt hlt2 hpre.out
        obtain ⟨x, hx⟩ : ∃ x, x = xs[k] := ⟨_, rfl⟩
        obtain ⟨y, hy⟩ : ∃ y, y = ys[k] := ⟨_, rfl⟩
        rw [← hx] at ca hst
        rw [← hy] at cb hst
        have hne2 : x ≠ y → xs ≠ ys := by
          intro h e
          apply h
          rw [hx, hy]
          subst e
          rfl
        have HS : x = y → Hid (xs.take (k + 1) = ys.take (k + 1)) := fun h => hid (hst.2 h)
        have HN := hid hne2
        have i1 : (0 : Int) ≤ (k : Int) := by omega
        have i2 : (k : Int) < (xs.length : Int) := by omega
        have i3 : (k : Int) < (ys.length : Int) := by omega
        clear hx hy hst hne2 haj hbj
        by_cases hxy : x = y
        · have HT := HS hxy
          subst hxy
          clear HS
          go_wp2
          go_quiet (fail)
          go_wp2
          go_roundw
          case rel => first | exact ⟨k + 1, by omega, by go_num, hdn.more _, HT⟩ | ((repeat apply Exists.intro); exact ⟨⟨k + 1, by omega, by go_num, hdn.more _, HT⟩, rfl⟩)
          case measure => simp [intOf]; omega
        · have hxy2 : (x == y) = false := by simpa using hxy
          clear HS
          have Hr := hid (show decide (xs = ys) = false by simpa using HN.out hxy)
          go_wp2
          go_quiet (fail)
          go_wp2
          go_ret
          exact ⟨hdn.more _, by rw [HR.out, Hr.out]; rfl⟩
      · have Hr : Hid (decide (xs = ys) = true) := by
          have := hpre.out
          rw [List.take_of_length_le (by omega), List.take_of_length_le (by omega)] at this
          exact hid (by simpa using this)
        go_wp2
        go_ret
        exact ⟨hdn, by rw [HR.out, Hr.out]; rfl⟩
  · have Hr : Hid (decide (xs = ys) = false) := hid (by
      simp
      intro e; subst e; exact hlen rfl)
    have hne : ((xs.length : Int) == (ys.length : Int)) = false := by simp; omega
    clear hlen hax hbx
    go_enter Tryz.func60, Tryz.ntmps60
    go_wp2
    go_ret
    exact ⟨DN.refl _, by rw [HR.out, Hr.out]; rfl⟩

end Go.Proofs.YtlmompdfombgeaaGreat
