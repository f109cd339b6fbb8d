import Derived.Test.YtkalppcekmlgbabVpPd
namespace Go.Proofs.Ytkalppcekmlgbab.Vp
open Go.RowKit

abbrev cmpS (a b : ByteArray) : Int := Lib.compareBytes a.data.toList b.data.toList

theorem cb_lt : ∀ (a b : List UInt8), Op.bytesLess a b = true → Lib.compareBytes a b = -1
  | [], [] => by simp [Op.bytesLess]
  | [], _ :: _ => by simp [Lib.compareBytes]
  | _ :: _, [] => by simp [Op.bytesLess]
  | a :: x, b :: y => by
    intro h
    have ih := cb_lt x y
    unfold Lib.compareBytes
    simp only [Op.bytesLess, Bool.or_eq_true, decide_eq_true_eq, Bool.and_eq_true, beq_iff_eq] at h
    rcases h with h | ⟨rfl, h⟩
    · rw [if_pos h]
    · rw [if_neg (by simp), if_neg (by simp), ih h]
theorem cb_gt : ∀ (a b : List UInt8), Op.bytesLess b a = true → Lib.compareBytes a b = 1
  | [], [] => by simp [Op.bytesLess]
  | [], _ :: _ => by simp [Op.bytesLess]
  | _ :: _, [] => by simp [Lib.compareBytes]
  | a :: x, b :: y => by
    intro h
    have ih := cb_gt x y
    unfold Lib.compareBytes
    simp only [Op.bytesLess, Bool.or_eq_true, decide_eq_true_eq, Bool.and_eq_true, beq_iff_eq] at h
    rcases h with h | ⟨rfl, h⟩
    · rw [if_neg (by rw [UInt8.lt_iff_toNat_lt] at *; omega), if_pos h]
    · rw [if_neg (by simp), if_neg (by simp), ih h]
theorem cb_same : ∀ (a : List UInt8), Lib.compareBytes a a = 0
  | [] => by simp [Lib.compareBytes]
  | a :: x => by
    unfold Lib.compareBytes
    rw [if_neg (by simp), if_neg (by simp), cb_same x]

theorem cmp_lt {a b : ByteArray} (h : kl a b = true) : cmpS a b = -1 := by
  simp only [kl, Lib.toList_data] at h
  exact cb_lt _ _ h
theorem cmp_gt {a b : ByteArray} (h : kl b a = true) : cmpS a b = 1 := by
  simp only [kl, Lib.toList_data] at h
  exact cb_gt _ _ h
theorem cmp_same (a : ByteArray) : cmpS a a = 0 := cb_same _

set_option maxRecDepth 100000 in
set_option maxHeartbeats 800000 in
theorem cmpString_any (a b : ByteArray) (w : World) : Calls Try.prog 74 #[.string a, .string b] w fun x w' => x = .returned (.int .i64 (cmpS a b)) ∧ w' = w := by
  go_enter Try.func74, Try.ntmps74
  go_wp2
  rw [run_callFunc_extern Try.func88 (by kernel_rfl) (by kernel_rfl) (by kernel_rfl) (e := Extern.BytealgCompare.compare) (by kernel_rfl), Lib.run_compareString]
  simp only [Result.andThen]
  rw [Oper.upon_value]
  go_wp2
  go_ret
  exact ⟨rfl, rfl⟩

set_option maxRecDepth 100000 in
set_option maxHeartbeats 800000 in
theorem strCompare_any (a b : ByteArray) (w : World) : Calls Try.prog 51 #[.string a, .string b] w fun x w' => x = .returned (.int .i64 (cmpS a b)) ∧ w' = w := by
  go_enter Try.func51, Try.ntmps51
  go_wp2_with (
      go_at_call 74
      refine (cmpString_any _ _ _).mono ?_
      rintro e w1 ⟨rfl, e1⟩
      rw [e1]
      clear e1 w1)
  go_ret
  exact ⟨rfl, rfl⟩

/-- The height that a node's block tells. -/
def hOf (w : World) (v : Value) : Nat := match v with
  | .pointer (some a) => (match w.cell? ⟨a.block, 4, none⟩ with | some (.int _ h) => h.toNat | _ => 0)
  | _ => 0
theorem hOf_at {w : World} {t : Tr} (h : t.At 81 w) : hOf w t.ptr = t.ht := by
  cases t with
  | nil => rfl
  | node b k v l r =>
    have c4 := (cells5 h.1).2.2.2.2
    simp only [hOf, Tr.ptr, Tr.addr, c4, Tr.ht]
    omega

theorem head_low (b : Nat) (k : ByteArray) (v : Value) (l r : Tr) : l ≠ .nil → (Tr.node b k v l r).toL.head? = l.toL.head? := by
  intro h
  cases l with
  | nil => exact absurd rfl h
  | node b' k' v' l' r' =>
    have : (Tr.node b' k' v' l' r').toL ≠ [] := by simp [Tr.toL]
    show (((Tr.node b' k' v' l' r').toL) ++ (b, k, v) :: r.toL).head? = _
    cases e : (Tr.node b' k' v' l' r').toL with
    | nil => exact absurd e this
    | cons a x => rfl

/-- What first leaves. -/
def FPost (t : Tr) (w : World) : Ending → World → Prop := fun x w' => ∃ b k v, t.toL.head? = some (b, k, v) ∧ x = .returned (.pointer (some ⟨b, 0, none⟩)) ∧ w' = w

set_option maxRecDepth 100000 in
set_option maxHeartbeats 800000 in
/-- The least key's node. -/
theorem first_any (t : Tr) (w : World) (h : t.At 81 w) (hne : t ≠ .nil) : Calls Try.prog 75 #[t.ptr] w (FPost t w) := by
  have HT := hid (And.intro h hne)
  clear h hne
  go_enter Try.func75, Try.ntmps75
  go_wp2
  go_loop [0] (fun i => ∃ s : Tr, Hid (i = s.ptr ∧ s.At 81 w ∧ s ≠ .nil ∧ s.toL.head? = t.toL.head?)) (fun i => hOf w i)
  case atStart => exact ⟨t, hid ⟨rfl, HT.out.1, HT.out.2, rfl⟩⟩
  case round =>
    obtain ⟨s, hs⟩ := hrel
    cases s with
    | nil => exact absurd rfl hs.out.2.2.1
    | node b k v l r =>
      have e0 := (show _ = Value.pointer (some ⟨b, 0, none⟩) from hs.out.1)
      subst e0
      have c2 := (cells5 hs.out.2.1.1).2.2.1
      have hm : hOf w (.pointer (some ⟨b, 0, none⟩)) = (Tr.node b k v l r).ht := hOf_at hs.out.2.1
      cases l with
      | nil =>
        have c2' : w.cell? ⟨b, 2, none⟩ = some (.pointer none) := c2
        have HH := hid hm
        clear c2 hm
        go_wp2
        go_ret
        exact ⟨b, k, v, hs.out.2.2.2.symm.trans rfl, rfl, rfl⟩
      | node b' k' v' l' r' =>
        have c2' : w.cell? ⟨b, 2, none⟩ = some (.pointer (some ⟨b', 0, none⟩)) := c2
        have HM := hid (show hOf w (.pointer (some ⟨b', 0, none⟩)) < hOf w (.pointer (some ⟨b, 0, none⟩)) from by
          have h2 : hOf w (.pointer (some ⟨b', 0, none⟩)) = (Tr.node b' k' v' l' r').ht := hOf_at hs.out.2.1.2.1
          rw [hm, h2]
          simp only [Tr.ht]
          omega)
        clear c2 hm
        go_wp2
        go_round
        case rel => exact ⟨Tr.node b' k' v' l' r', hid ⟨rfl, hs.out.2.1.2.1, by simp, (head_low b k v _ r (by simp)).symm.trans hs.out.2.2.2⟩⟩
        case measure => exact HM.out

end Go.Proofs.Ytkalppcekmlgbab.Vp
