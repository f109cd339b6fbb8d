import Derived.Test.YtkalppcekmlgbaaFe
namespace Go.Proofs.Ytkalppcekmlgbaa
open Go.RowKit

theorem Sq.mono {B : Nat} {w w1 : World} {o : Option Addr} {t : Tr} {b : Nat} {vl : Value} {l : List Pr} {t1 : Tr} {vl1 : Value} {l1 : List Pr} {d d' : Nat} (h : Sq B w w1 o t b vl l t1 vl1 l1 d) (hd : d ≤ d') : Sq B w w1 o t b vl l t1 vl1 l1 d' := ⟨h.st, h.kp, h.nw, by have := h.ln; omega⟩

/-- An argument's list is as it was. -/
theorem Sq.rf {B : Nat} {w w1 : World} {o : Option Addr} {t : Tr} {b : Nat} {vl : Value} {l : List Pr} {t1 : Tr} {vl1 : Value} {l1 : List Pr} {d m n : Nat} {v : Value} {cs : List Value} (h : Sq B w w1 o t b vl l t1 vl1 l1 d) (h0 : St B w o t b vl l) (hr : Rf w m v n cs) (hv : cs ≠ [] → ∀ j, v.ownBlock = some j → j < B) : Rf w1 m v n cs :=
  hr.keptE h.kp (fun hc j hj e => by have := hv hc j hj; have := (h0.lt j e).1; omega)

set_option maxRecDepth 100000 in
set_option maxHeartbeats 8000000 in
theorem plays_any (B p : Nat) (t : Tr) (b : Nat) (vl : Value) (l : List Pr) (sv : Value) (ys : List Sx) (w : World) (h : St B w (some ⟨p, 0, none⟩) t b vl l) (hB : B ≤ w.heap.size) (hr : Rf w 5 sv ys.length (ys.flatMap Sx.cells)) (hsv : ys.flatMap Sx.cells ≠ [] → ∀ j, sv.ownBlock = some j → j < B)
    (hys : ∀ x ∈ ys, x.key.size ≤ 281474976710656 ∧ x.to.size ≤ 281474976710656) (hl : l.length ≤ 80000) :
    Calls Try.prog 10 #[.pointer (some ⟨p, 0, none⟩), .pointer (some ⟨b, 0, none⟩), sv] w (GoP B w (some ⟨p, 0, none⟩) t b vl l (min ys.length 300)) := by
  obtain ⟨aob, capb, hbody, hcap, -⟩ := hr.shape
  have HR := hid (And.intro h (And.intro hr (And.intro hsv hys)))
  subst hbody
  clear hr hys h hsv
  generalize hP : GoP B w (some ⟨p, 0, none⟩) t b vl l (min ys.length 300) = PP
  have HP := hid hP
  clear hP
  go_enter Try.func10, Try.ntmps10
  go_wp2
  go_loopw [7] (fun i wr => ∃ (k : Nat) (t' : Tr) (vl' : Value) (l' : List Pr), i = .int .i64 k ∧ k ≤ ys.length ∧ k ≤ 300 ∧ Hid (Sq B w wr (some ⟨p, 0, none⟩) t b vl l t' vl' l' k)) (fun i _ => 300 - (intOf i).toNat)
  case atStart => exact ⟨0, t, vl, l, rfl, Nat.zero_le _, Nat.zero_le _, hid (Sq.refl HR.out.1)⟩
  case round =>
    obtain ⟨k, t', vl', l', rfl, hk, hk3, hq⟩ := hrel
    have hlen : l'.length ≤ 80300 := by have := hq.out.ln; omega
    have hBr : B ≤ wr.heap.size := Nat.le_trans hB hq.out.kp.size
    by_cases h12 : k < ys.length ∧ k < 300
    · obtain ⟨h1, h2⟩ := h12
      have h2' : (k : Int) < 300 := by omega
      obtain ⟨gb, off, cap', hbody2, -, -, hcell⟩ := (hq.out.rf HR.out.1 HR.out.2.1 HR.out.2.2.1).lits (by omega) (by omega)
      injection hbody2 with hb3 hb4 hb5
      subst hb3 hb5
      obtain ⟨x, hxe⟩ : ∃ x, ys[k] = x := ⟨_, rfl⟩
      have hxk := HR.out.2.2.2 x (by rw [← hxe]; exact List.getElem_mem h1)
      have hfl : ∀ c u, c < 5 → x.cells[c]? = some u → (ys.flatMap Sx.cells)[k * 5 + c]? = some u := fun c u hc hu => by
        rw [flat_get Sx.cells 5 Sx.len ys k c hc, List.getElem?_eq_getElem h1, hxe]
        exact hu
      have v0 := hcell _ _ (hfl 0 _ (by omega) rfl)
      have v1 := hcell _ _ (hfl 1 _ (by omega) rfl)
      have v2 := hcell _ _ (hfl 2 _ (by omega) rfl)
      have v3 := hcell _ _ (hfl 3 _ (by omega) rfl)
      have v4 := hcell _ _ (hfl 4 _ (by omega) rfl)
      simp only [Nat.add_zero, ← Nat.add_assoc] at v0 v1 v2 v3 v4
      obtain ⟨kind, key, to, vv, stop⟩ := x
      simp only at hxk v0 v1 v2 v3 v4
      clear hcell hfl hxe hb4
      obtain ⟨W, hW⟩ : ∃ W, W = wr.alloc (sxB ⟨kind, key, to, vv, stop⟩) := ⟨_, rfl⟩
      have hblk : W.heap[wr.heap.size]? = some (sxB ⟨kind, key, to, vv, stop⟩) := by rw [hW]; exact hp_new _ _
      obtain ⟨y0, y1, y2, y3, y4⟩ := cells5 hblk
      have hWb : Below wr.heap.size wr W := by rw [hW]; exact below_new _ _
      have hqW := hq.out.below hWb
      have ONE := hid (show Calls Try.prog 20 #[.pointer (some ⟨p, 0, none⟩), .pointer (some ⟨b, 0, none⟩), sxV ⟨kind, key, to, vv, stop⟩] W fun e w' => e = .returned (.bool true) ∧ ∃ t2 vl2 l2, Hid (Sq B w w' (some ⟨p, 0, none⟩) t b vl l t2 vl2 l2 (k + 1)) from by
        refine (one_any B p t' b vl' l' ⟨kind, key, to, vv, stop⟩ W hqW.st hxk.1 (by omega)).mono ?_
        rintro e w' ⟨rfl, t2, vl2, l2, hsp⟩
        exact ⟨rfl, t2, vl2, l2, hid (hqW.trans (Sq.ofSp hsp))⟩)
      have GO := hid (show Calls Try.prog 14 #[.pointer (some ⟨p, 0, none⟩), .pointer (some ⟨b, 0, none⟩), .string key, .string to, .int .i64 stop, .slice none 0 0] W fun e w' => e = .returned (.bool true) ∧ ∃ t2 vl2 l2, Hid (Sq B w w' (some ⟨p, 0, none⟩) t b vl l t2 vl2 l2 (k + 1)) from by
        refine (goes_any B (some ⟨p, 0, none⟩) t' b vl' l' key to stop (.slice none 0 0) [] W hqW.st (Nat.le_trans hBr hWb.size) hxk.1 hxk.2 (rf_nil _ _) (fun hc => absurd rfl hc) (fun x hx => (by cases hx)) (by simp only [List.length_nil]; omega)).mono ?_
        rintro e w' ⟨rfl, t2, vl2, l2, hsq⟩
        exact ⟨rfl, t2, vl2, l2, hid ((hqW.trans hsq).mono (by simp))⟩)
      have HW := hid hW
      have hbl : wr.heap.size < W.heap.size := hp_lt hblk
      clear hW hblk hWb hqW hBr hlen
      by_cases k6 : kind = 6
      · subst k6
        clear ONE
        go_upto_region 5 with (fail)
        rw [← HW.out]
        go_wp2_with (
          go_at_call 14
          refine GO.out.mono ?_
          rintro e w2 ⟨rfl, t2, vl2, l2, N2⟩)
        go_roundw
        case rel => exact ⟨k + 1, t2, vl2, l2, by go_num, by omega, by omega, N2⟩
        case measure => simp [intOf]; omega
      · have b6 := kind_false k6
        clear k6 GO
        go_upto_region 5 with (fail)
        rw [← HW.out]
        go_wp2_with (
          go_at_call 20
          refine ONE.out.mono ?_
          rintro e w2 ⟨rfl, t2, vl2, l2, N2⟩)
        go_roundw
        case rel => exact ⟨k + 1, t2, vl2, l2, by go_num, by omega, by omega, N2⟩
        case measure => simp [intOf]; omega
    · have c0 := cells1 hq.out.st.bk.blk
      obtain ⟨ao, cap, e⟩ := own_shape hq.out.st.bk.own
      rw [e] at c0
      have LN := hid (show Calls Try.prog 19 #[.pointer (some ⟨p, 0, none⟩)] wr.drew fun x w' => x = .returned (.int .i64 l'.length) ∧ w' = wr.drew from by
        rw [← hq.out.st.mt.len]
        exact len_any _ t' _ (TO.heap (w := wr) (w' := wr.drew) rfl hq.out.st.to))
      have GO := hid (show Calls Try.prog 14 #[.pointer (some ⟨p, 0, none⟩), .pointer (some ⟨b, 0, none⟩), .string ⟨#[]⟩, .string ⟨#[]⟩, .int .i64 0, .slice none 0 0] wr.drew fun e w' => e = .returned (.bool true) ∧ Hid (PP (.returned (.bool true)) w') from by
        refine (goes_any B (some ⟨p, 0, none⟩) t' b vl' l' ⟨#[]⟩ ⟨#[]⟩ 0 (.slice none 0 0) [] wr.drew (hq.out.st.below (Below.refl _ _).drew) hBr (by decide) (by decide) (rf_nil _ _) (fun hc => absurd rfl hc) (fun x hx => (by cases hx)) (by simp only [List.length_nil]; omega)).mono ?_
        rintro e w' ⟨rfl, t2, vl2, l2, hsq⟩
        refine ⟨rfl, hid ?_⟩
        rw [← HP.out]
        exact ⟨rfl, t2, vl2, l2, ((hq.out.below (Below.refl _ _).drew).trans hsq).mono (by simp only [List.length_nil]; omega)⟩)
      clear hBr hlen e
      by_cases h1 : k < ys.length
      · have h2' : ¬ (k : Int) < 300 := by omega
        clear h12
        go_wp2_with fail
        go_region_with (first
          | (go_at_call 19
             refine LN.out.mono ?_
             rintro e w2 ⟨rfl, e2⟩
             rw [e2]
             clear e2 w2)
          | (go_at_call 14
             refine GO.out.mono ?_
             rintro e w3 ⟨rfl, N3⟩))
        all_goals
          go_wp2
          go_ret
          exact N3.out
      · clear h12
        go_wp2_with fail
        go_region_with (first
          | (go_at_call 19
             refine LN.out.mono ?_
             rintro e w2 ⟨rfl, e2⟩
             rw [e2]
             clear e2 w2)
          | (go_at_call 14
             refine GO.out.mono ?_
             rintro e w3 ⟨rfl, N3⟩))
        all_goals
          go_wp2
          go_ret
          exact N3.out

end Go.Proofs.Ytkalppcekmlgbaa
