import Derived.Test.YtkalppcekmlgbaaFe
namespace Go.Proofs.Ytkalppcekmlgbaa
open Go.RowKit

/-- A new, empty book beside no table. -/
theorem st_none {B : Nat} {w : World} {b : Nat} (hB : B ≤ b) (hb : w.heap[b]? = some (.cells #[.slice none 0 0] 32 (0, 0))) : St B w none .nil b (.slice none 0 0) [] :=
  ⟨.inl ⟨rfl, rfl⟩, fun p h => (by cases h), fun i h => (by cases h), hB, ⟨hb, World.ownsRow_nil _ _ _ _⟩, rfl, fun p h => (by cases h)⟩

theorem ft_none {b : Nat} {k : Nat} (h : ft none .nil b (.slice none 0 0) k) : k = b := by
  rcases h with h | h | h | h
  · cases h
  · cases h
  · exact h
  · cases h

/-- What the blocks of a step and of a new book give. -/
theorem sx_two (w : World) (x : Sx) (o : Obj) : ((w.alloc (sxB x)).alloc o).heap[w.heap.size]? = some (sxB x) ∧ ((w.alloc (sxB x)).alloc o).heap[w.heap.size + 1]? = some o ∧ Below w.heap.size w ((w.alloc (sxB x)).alloc o) := two' w _ _

theorem kept_below {w W w' : World} {S : Nat → Prop} (hb : Below w.heap.size w W) (hk : Kept S W w') (hS : ∀ k, S k → w.heap.size ≤ k) : Below w.heap.size w w' :=
  hb.trans (hk.below hb.size (fun k hk hs => by have := hS k hs; omega))

set_option maxRecDepth 100000 in
set_option maxHeartbeats 8000000 in
theorem nothing_any (sv : Value) (ys : List Sx) (w : World) (hr : Rf w 5 sv ys.length (ys.flatMap Sx.cells)) (hys : ∀ x ∈ ys, x.key.size ≤ 281474976710656 ∧ x.to.size ≤ 281474976710656) :
    Calls Try.prog 7 #[sv] w fun x w' => x = .returned (.bool true) ∧ Below w.heap.size w w' := by
  obtain ⟨aob, capb, hbody, hcap, -⟩ := hr.shape
  have HR := hid (And.intro hr hys)
  have KN := hid known_any
  subst hbody
  clear hr hys
  have hmx : ys.length ≤ capb := hcap
  go_enter Try.func7, Try.ntmps7
  go_wp2
  go_loopw [4] (fun i wr => ∃ k : Nat, i = .int .i64 k ∧ k ≤ ys.length ∧ k ≤ 300 ∧ Hid (Below w.heap.size w wr)) (fun i _ => 300 - (intOf i).toNat)
  case atStart => exact ⟨0, rfl, Nat.zero_le _, Nat.zero_le _, hid (Below.refl _ _)⟩
  case round =>
    obtain ⟨k, rfl, hk, hk3, hb⟩ := hrel
    by_cases h1 : k < ys.length
    · by_cases h2 : k < 300
      · have h2' : (k : Int) < 300 := by omega
        obtain ⟨gb, off, cap', hbody2, -, -, hcell⟩ := (HR.out.1.below hb.out).lits (by omega) (by omega)
        injection hbody2 with hb3 hb4 hb5
        subst hb3 hb5
        obtain ⟨x, hxe⟩ : ∃ x, ys[k] = x := ⟨_, rfl⟩
        have hxk := HR.out.2 x (by rw [← hxe]; exact List.getElem_mem h1)
        have hfl : ∀ c u, c < 5 → x.cells[c]? = some u → (ys.flatMap Sx.cells)[k * 5 + c]? = some u := fun c u hc hu => by
          rw [flat_get Sx.cells 5 Sx.len ys k c hc, List.getElem?_eq_getElem h1, hxe]
          exact hu
        have v0 := hcell _ _ (hfl 0 _ (by omega) rfl)
        have v1 := hcell _ _ (hfl 1 _ (by omega) rfl)
        have v2 := hcell _ _ (hfl 2 _ (by omega) rfl)
        have v3 := hcell _ _ (hfl 3 _ (by omega) rfl)
        have v4 := hcell _ _ (hfl 4 _ (by omega) rfl)
        simp only [Nat.add_zero, ← Nat.add_assoc] at v0 v1 v2 v3 v4
        obtain ⟨kind, key, to, vv, stop⟩ := x
        simp only at hxk v0 v1 v2 v3 v4
        clear hcell hfl hxe hb4
        obtain ⟨W, hW⟩ : ∃ W, W = wr.alloc (sxB ⟨kind, key, to, vv, stop⟩) := ⟨_, rfl⟩
        have hblk : W.heap[wr.heap.size]? = some (sxB ⟨kind, key, to, vv, stop⟩) := by rw [hW]; exact hp_new _ _
        obtain ⟨y0, y1, y2, y3, y4⟩ := cells5 hblk
        have hWs : W.heap.size = wr.heap.size + 1 := by rw [hW]; simp
        have hWb := below_on hb.out (show Below wr.heap.size wr W by rw [hW]; exact below_new _ _)
        have HW := hid hW
        have ONE := hid (show kind ≠ 1 → Calls Try.prog 20 #[.pointer none, .pointer (some ⟨W.heap.size, 0, none⟩), sxV ⟨kind, key, to, vv, stop⟩] (W.alloc (.cells #[.slice none 0 0] 32)) fun e w' => e = .returned (.bool true) ∧ Hid (Below w.heap.size w w') from fun hk1 => by
          have hbn := below_on hWb (below_new W (.cells #[.slice none 0 0] 32))
          refine (one_none w.heap.size none .nil W.heap.size (.slice none 0 0) [] ⟨kind, key, to, vv, stop⟩ _ (st_none hWb.size (hp_new W _)) hk1 (by simp)).mono ?_
          rintro e w' ⟨rfl, t', vl', l', hsp⟩
          exact ⟨rfl, hid (kept_below hbn hsp.kp (fun j hj => by rw [ft_none hj]; exact hWb.size))⟩)
        have GO := hid (show ∀ w1, Below W.heap.size W w1 → Calls Try.prog 14 #[.pointer none, .pointer (some ⟨w1.heap.size, 0, none⟩), .string key, .string to, .int .i64 0, .slice none 0 0] (w1.alloc (.cells #[.slice none 0 0] 32)) fun e w' => e = .returned (.bool true) ∧ Hid (Below w.heap.size w w') from fun w1 hb1 => by
          have hw1 := below_on hWb hb1
          have hbn := below_on hw1 (below_new w1 (.cells #[.slice none 0 0] 32))
          refine (goes_any w.heap.size none .nil w1.heap.size (.slice none 0 0) [] key to 0 (.slice none 0 0) [] _ (st_none hw1.size (hp_new w1 _)) hbn.size hxk.1 hxk.2 (rf_nil _ _) (fun hc => absurd rfl hc) (fun x hx => (by cases hx)) (by simp)).mono ?_
          rintro e w' ⟨rfl, t', vl', l', hsq⟩
          exact ⟨rfl, hid (kept_below hbn hsq.kp (fun j hj => by rw [ft_none hj]; exact hw1.size))⟩)
        have PN := hid (put_nil key vv W)
        have LN := hid (fun w1 => len_any none .nil w1 (.inl ⟨rfl, rfl⟩))
        have hbl : wr.heap.size < W.heap.size := by omega
        have HC := hid (fun (w1 : World) (hb1 : Below W.heap.size W w1) => cells5 (hp_below hblk hb1 hbl))
        clear hWb hW hblk hWs
        by_cases k1 : kind = 1
        · subst k1
          clear ONE
          go_upto_region 6 with (fail)
          rw [← HW.out]
          go_wp2_with (first
            | (go_at_call 21
               refine PN.out.mono ?_
               rintro e w2 ⟨rfl, hb2⟩
               obtain ⟨x0, x1, x2, x3, x4⟩ := HC.out w2 hb2
               have hz2 := Nat.lt_of_lt_of_le hbl hb2.size
               have L2 := hid (LN.out w2)
               have G2 := hid (GO.out w2 hb2)
               clear hb2)
            | (go_at_call 19
               refine L2.out.mono ?_
               rintro e w3 ⟨rfl, e3⟩
               rw [e3]
               clear e3 w3)
            | (go_at_call 14
               refine G2.out.mono ?_
               rintro e w4 ⟨rfl, N4⟩))
          go_roundw
          case rel => exact ⟨k + 1, by go_num, by omega, by omega, N4⟩
          case measure => simp [intOf]; omega
        · by_cases k6 : kind = 6
          · subst k6
            clear ONE k1
            go_upto_region 6 with (fail)
            rw [← HW.out]
            go_wp2_with (first
              | (go_at_call 21
                 refine PN.out.mono ?_
                 rintro e w2 ⟨rfl, hb2⟩
                 obtain ⟨x0, x1, x2, x3, x4⟩ := HC.out w2 hb2
                 have hz2 := Nat.lt_of_lt_of_le hbl hb2.size
                 have L2 := hid (LN.out w2)
                 have G2 := hid (GO.out w2 hb2)
                 clear hb2)
              | (go_at_call 19
                 refine L2.out.mono ?_
                 rintro e w3 ⟨rfl, e3⟩
                 rw [e3]
                 clear e3 w3)
              | (go_at_call 14
                 refine G2.out.mono ?_
                 rintro e w4 ⟨rfl, N4⟩))
            go_roundw
            case rel => exact ⟨k + 1, by go_num, by omega, by omega, N4⟩
            case measure => simp [intOf]; omega
          · have b1 : (kind != 1) = true := by simp [bne, kind_false k1]
            have b6 : (kind != 6) = true := by simp [bne, kind_false k6]
            have O2 := hid (ONE.out k1)
            clear ONE GO PN k1 k6
            go_upto_region 6 with (fail)
            rw [← HW.out]
            go_wp2_with (
              go_at_call 20
              refine O2.out.mono ?_
              rintro e w2 ⟨rfl, N2⟩)
            go_roundw
            case rel => exact ⟨k + 1, by go_num, by omega, by omega, N2⟩
            case measure => simp [intOf]; omega
      · have h2' : ¬ (k : Int) < 300 := by omega
        have K2 := hid (KN.out wr)
        go_wp2_with (
          go_at_call 11
          refine K2.out.mono ?_
          rintro e w2 ⟨rfl, hb2⟩
          have N2 := hid hb2
          clear hb2)
        go_ret
        exact ⟨rfl, below_on hb.out N2.out⟩
    · have K2 := hid (KN.out wr)
      go_wp2_with (
        go_at_call 11
        refine K2.out.mono ?_
        rintro e w2 ⟨rfl, hb2⟩
        have N2 := hid hb2
        clear hb2)
      go_ret
      exact ⟨rfl, below_on hb.out N2.out⟩

end Go.Proofs.Ytkalppcekmlgbaa
