import Derived.Test.YtlmompdfombgeaaGreatN1
namespace Go.Proofs.YtlmompdfombgeaaGreat
open Go.RowKit Go.MapKept

set_option maxHeartbeats 800000 in
theorem round_small (v n : Int) (w : World) (h0 : 0 ≤ v) (h1 : v < n) (h2 : n ≤ 1000000000) : Calls Tryz.prog 94 #[.int .i64 v, .int .i64 n] w fun x w' => x = .returned (.int .i64 v) ∧ w' = w := by
  have e1 : v % n = v := Int.emod_eq_of_lt h0 h1
  have e2 : (v + n) % n = v := by rw [Int.add_emod_right, e1]
  have hn : ¬ n = 0 := by omega
  have hn0 : 0 < n := by omega
  have hv : v ≤ 1000000000 := by omega
  have hn1 : 0 ≤ n := by omega
  have H1 := hid e1
  have H2 := hid e2
  clear e1 e2
  go_enter Tryz.func94, Tryz.ntmps94
  go_wp2
  go_ret
  refine ⟨?_, rfl⟩
  have h3 : (v + n).tmod n = v := by rw [Int.tmod_eq_emod_of_nonneg (by omega), H2.out]
  show Ending.returned (.int .i64 ((wrap64 (v % n + n)).tmod n)) = _
  rw [H1.out, show wrap64 (v + n) = v + n by unfold wrap64; omega, h3]

/-- The bytes from lo on, ahead of k, that a change brought, are noughts. -/
def loseTo (lo k : Nat) (xs : List Int) (fs : List Bool) : List Int := xs.mapIdx fun i x => if lo ≤ i ∧ i < k ∧ fs[i]? = some true then 0 else x

theorem loseTo_len (lo k : Nat) (xs : List Int) (fs : List Bool) : (loseTo lo k xs fs).length = xs.length := by simp [loseTo]
theorem loseTo_start (lo : Nat) (xs : List Int) (fs : List Bool) : loseTo lo lo xs fs = xs := by
  apply List.ext_getElem?
  intro i
  rw [loseTo, List.getElem?_mapIdx]
  have : ∀ x, (if lo ≤ i ∧ i < lo ∧ fs[i]? = some true then (0 : Int) else x) = x := fun x => if_neg (by omega)
  simp [this]
theorem loseTo_yes (lo k : Nat) (xs : List Int) (fs : List Bool) (h : lo ≤ k) (hf : fs[k]? = some true) : (loseTo lo k xs fs).set k 0 = loseTo lo (k + 1) xs fs := by
  apply List.ext_getElem?
  intro i
  rw [List.getElem?_set, loseTo, loseTo, List.getElem?_mapIdx, List.getElem?_mapIdx]
  by_cases hi : k = i
  · subst hi
    simp only [List.length_mapIdx, if_true]
    by_cases hl : k < xs.length
    · simp [hl, h, hf]
    · simp [hl]
  · simp only [hi, if_false]
    congr 1
    funext x
    by_cases a : lo ≤ i ∧ i < k ∧ fs[i]? = some true
    · rw [if_pos a, if_pos ⟨a.1, by omega, a.2.2⟩]
    · rw [if_neg a, if_neg (fun b => a ⟨b.1, by omega, b.2.2⟩)]
theorem loseTo_no (lo k : Nat) (xs : List Int) (fs : List Bool) (hf : fs[k]? = some false) : loseTo lo k xs fs = loseTo lo (k + 1) xs fs := by
  apply List.ext_getElem?
  intro i
  rw [loseTo, loseTo, List.getElem?_mapIdx, List.getElem?_mapIdx]
  congr 1
  funext x
  by_cases a : lo ≤ i ∧ i < k ∧ fs[i]? = some true
  · rw [if_pos a, if_pos ⟨a.1, by omega, a.2.2⟩]
  · rw [if_neg a, if_neg (fun b => a ⟨b.1, ?_, b.2.2⟩)]
    have : i ≠ k := fun e => by subst e; rw [hf] at b; simp at b
    omega

theorem own_set {w : World} {B n g cap : Nat} {xs : List Int} (h : w.ownsRow B 5 1 (.slice (some ⟨g, 0, none⟩) n cap) n (B8 xs)) (j : Nat) (y : Int) : (w.setCell ⟨g, j, none⟩ (.int .u8 y)).ownsRow B 5 1 (.slice (some ⟨g, 0, none⟩) n cap) n (B8 (xs.set j y)) := by
  have hl : xs.length = n := by have := h.1; simp at this; omega
  rcases h.2 with ⟨h1, _⟩ | ⟨g', cap', cur, h1, hb, hg, hc, hm, hs, ht⟩
  · cases h1
  · injection h1 with e1 e2 e3
    injection e1 with e1
    injection e1 with e1
    subst e1 e3
    refine ⟨by simp [hl], .inr ⟨g, cap, cur.setIfInBounds j (.int .u8 y), rfl, hb, set_block hg _, hc, hm, by simpa using hs, ?_⟩⟩
    rw [Array.toList_setIfInBounds, List.take_set, ht, B8, B8, List.map_set]

set_option maxRecDepth 100000 in
set_option maxHeartbeats 1600000 in
theorem lose_any (B s n g h cap cap' : Nat) (xs : List Int) (fs : List Bool) (w : World) (hd : w.ownsRow B 5 1 (.slice (some ⟨g, 0, none⟩) n cap) n (B8 xs)) (hf : w.ownsRow B 4 1 (.slice (some ⟨h, 0, none⟩) n cap') n (BB fs)) (hn : n ≤ 100000000) (hs : 16 * s ≤ n) :
    Calls Tryz.prog 125 #[.agg #[.slice (some ⟨g, 0, none⟩) n cap, .slice (some ⟨h, 0, none⟩) n cap'], .int .i64 s] w fun x w' => x = .returned (.tuple #[]) ∧ w'.ownsRow B 5 1 (.slice (some ⟨g, 0, none⟩) n cap) n (B8 (loseTo (16 * s) (min (16 * s + 16) n) xs fs)) ∧ Kept (fun k => k = g) w w' := by
  have hgl := (hd.lt g rfl).2
  have hhl := (hf.lt h rfl).2
  have hgh : g ≠ h := fun e => own_ne hd hf (by decide) g rfl (by rw [e]; rfl)
  have hxl : xs.length = n := by have := hd.1; simp at this; omega
  have hfl : fs.length = n := by have := hf.1; simp at this; omega
  have HD := hid hd
  have HF := hid hf
  have HX := hid hxl
  have HL := hid hfl
  clear hd hf hxl hfl
  go_enter Tryz.func125, Tryz.ntmps125
  go_wp2
  go_loopw [5] (fun i wr => ∃ k : Nat, 16 * s ≤ k ∧ k ≤ min (16 * s + 16) n ∧ i = .int .i64 k ∧ wr.ownsRow B 5 1 (.slice (some ⟨g, 0, none⟩) n cap) n (B8 (loseTo (16 * s) k xs fs)) ∧ wr.heap[w.heap.size]? = some (.cells #[.slice (some ⟨g, 0, none⟩) n cap, .slice (some ⟨h, 0, none⟩) n cap'] 109 (0, 0)) ∧ Kept (fun k => k = g) w wr) (fun i _ => n - (intOf i).toNat)
  case atStart =>
    refine ⟨16 * s, Nat.le_refl _, by omega, by go_num, ?_, hp_new _ _, (Kept.refl _ w).alloc _⟩
    rw [loseTo_start]
    exact ownsRow_kept HD.out ((Kept.refl (fun _ => False) w).alloc _) (fun _ _ e => e)
  case round =>
    obtain ⟨k, hk1, hk2, rfl, ho, hb, hkp⟩ := hrel
    have q0 : wr.cell? ⟨w.heap.size, 0, none⟩ = some (.slice (some ⟨g, 0, none⟩) n cap) := by rw [cell_of_row wr _ 0 _ _ _ hb]; rfl
    have q1 : wr.cell? ⟨w.heap.size, 1, none⟩ = some (.slice (some ⟨h, 0, none⟩) n cap') := by rw [cell_of_row wr _ 1 _ _ _ hb]; rfl
    by_cases hlt : k < min (16 * s + 16) n
    · have hkn : k < n := by omega
      have hof := ownsRow_kept HF.out hkp (fun j hj e => by simp [Value.ownBlock] at hj; omega)
      have i1 : (k : Int) < min ((16 : Int) * s + 16) n := by omega
      have i1' : (k : Int) < min ((s : Int) * 16 + 16) n := by omega
      have i2 : (k : Int) < (n : Int) := by omega
      obtain ⟨b, hbk⟩ : ∃ b, fs[k]? = some b := ⟨fs[k]'(by rw [HL.out]; exact hkn), by simp [HL.out, hkn]⟩
      have cf : wr.cell? ⟨h, k, none⟩ = some (.bool b) := by
        have := hof.cells (g := h) rfl k (.bool b) (by simp [BB, hbk])
        rwa [add_lit, Nat.zero_add] at this
      obtain ⟨y, hy⟩ : ∃ y, (loseTo (16 * s) k xs fs)[k]? = some y := ⟨(loseTo (16 * s) k xs fs)[k]'(by rw [loseTo_len, HX.out]; exact hkn), by simp [loseTo_len, HX.out, hkn]⟩
      have cd : wr.cell? ⟨g, k, none⟩ = some (.int .u8 y) := by
        have := ho.cells (g := g) rfl k (.int .u8 y) (by simp [B8, hy])
        rwa [add_lit, Nat.zero_add] at this
      obtain ⟨cs0, hcs0⟩ := owns_block ho g rfl
      have fz := free_of_block (o := k) hcs0
      have HO := hid ho
      have HB := hid hb
      have HK := hid hkp
      have HBK := hid hbk
      clear ho hb hkp hof hcs0 hy hbk
      cases b with
      | true =>
        go_wp2
        go_roundw
        case rel =>
          refine ⟨k + 1, by omega, by omega, by go_num, ?_, ?_, ?_⟩
          · rw [← loseTo_yes _ _ _ _ hk1 HBK.out]
            exact own_set HO.out k 0
          · exact hp_set HB.out (by simp; omega) _
          · exact HK.out.setCell (p := ⟨g, k, none⟩) (fun _ => rfl) _
        case measure => simp [intOf]; omega
      | false =>
        go_wp2
        go_roundw
        case rel =>
          refine ⟨k + 1, by omega, by omega, by go_num, ?_, HB.out, HK.out⟩
          rw [← loseTo_no _ _ _ _ HBK.out]
          exact HO.out
        case measure => simp [intOf]; omega
    · have hke := hid (show k = min (16 * s + 16) n by omega)
      have i3 : ¬ ((k : Int) < min ((s : Int) * 16 + 16) n) := by omega
      have i4 : ¬ ((k : Int) < min ((16 : Int) * s + 16) n) := by omega
      have HO := hid (And.intro ho hkp)
      clear ho hkp hb
      go_wp2
      go_end0
      refine ⟨rfl, ?_, HO.out.2⟩
      rw [← hke.out]
      exact HO.out.1

end Go.Proofs.YtlmompdfombgeaaGreat
