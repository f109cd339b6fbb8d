import Derived.Test.YtamajeagmkjjbaaIts
namespace Go.Proofs.Ytamajeagmkjjbaa
open Go.RowKit

/-- The bytes of the first k texts. -/
def sumS (its : List It) : Nat := (its.map fun x => x.s.size).sum

theorem sumS_take (its : List It) (k : Nat) (h : k < its.length) : sumS (its.take (k + 1)) = sumS (its.take k) + its[k].s.size := by
  unfold sumS
  rw [List.take_succ_eq_append_getElem h, List.map_append, List.sum_append]
  simp only [List.map_cons, List.map_nil, List.sum_cons, List.sum_nil, Nat.add_zero]

/-- What 'much' tells. -/
def MuchPost (its : List It) (bl : Nat) (x : Ending) : Prop := ∃ r, x = .returned (.bool r) ∧ (r = false → its.length ≤ 300 ∧ bl ≤ 100000 ∧ sumS its ≤ 100000)

set_option maxRecDepth 100000 in
set_option maxHeartbeats 800000 in
theorem much_any (v : Value) (its : List It) (bo : Option Addr) (bl bc : Nat) (w : World) (h : Its w v its) (hbl : bl ≤ 9223372036854775807) :
    Calls Try.prog 9 #[v, .slice bo bl bc] w fun x w' => w' = w ∧ MuchPost its bl x := by
  obtain ⟨ao, cap, rfl, hc, hcm, hok, hx⟩ := h
  by_cases h1 : 300 < its.length
  · clear hx
    go_enter Try.func9, Try.ntmps9
    go_wp2
    go_ret
    exact ⟨rfl, true, rfl, fun h => by cases h⟩
  · by_cases h2 : 100000 < bl
    · clear hx
      go_enter Try.func9, Try.ntmps9
      go_wp2
      go_ret
      exact ⟨rfl, true, rfl, fun h => by cases h⟩
    · have Hx := hid hx
      have Hok := hid hok
      clear hx hok
      go_enter Try.func9, Try.ntmps9
      go_wp2
      go_loop [5, 6] (fun n i => ∃ (k : Nat) (t : Nat), k ≤ its.length ∧ i = .int .i64 k ∧ n = .int .i64 t ∧ Hid (t = sumS (its.take k)) ∧ t ≤ k * 100000) (fun _ i => its.length - (intOf i).toNat)
      case atStart => exact ⟨0, 0, Nat.zero_le _, rfl, rfl, hid (by simp [sumS]), by omega⟩
      case round =>
        obtain ⟨k, t, hk, rfl, rfl, ht, htk⟩ := hrel
        by_cases hlt : k < its.length
        · obtain ⟨b, off, rfl, hj⟩ := Hx.out (by intro e; subst e; simp at hlt)
          have hcell := hj k its[k] (by simp [hlt])
          have hsz := (Hok.out its[k] (List.getElem_mem hlt)).2.2.2.2
          have hsum := sumS_take its k hlt
          obtain ⟨x, hxe⟩ : ∃ x, x = its[k] := ⟨_, rfl⟩
          rw [← hxe] at hcell hsz hsum
          obtain ⟨c0, c1, c2, c3, c4⟩ := hcell
          have Hsum := hid hsum
          obtain ⟨kk, kn, ku, ki, s⟩ := x
          dsimp only at c0 c1 c2 c3 c4 hsz
          clear hj hsum c0 c1 c2 c3 hxe
          by_cases hbig : 100000 < s.size
          · go_wp2
            go_ret
            exact ⟨rfl, true, rfl, fun h => by cases h⟩
          · go_wp2
            go_round
            case rel => exact ⟨k + 1, t + s.size, by omega, by go_num, by go_num, hid (by rw [Hsum.out, ← ht.out]), by omega⟩
            case measure => simp [intOf]; omega
        · obtain rfl : k = its.length := by omega
          have ht2 := ht.out
          rw [List.take_length] at ht2
          have Ht := hid ht2
          clear ht ht2
          go_wp2
          go_ret
          refine ⟨rfl, _, rfl, ?_⟩
          intro h
          have := Ht.out
          simp at h
          omega

end Go.Proofs.Ytamajeagmkjjbaa
