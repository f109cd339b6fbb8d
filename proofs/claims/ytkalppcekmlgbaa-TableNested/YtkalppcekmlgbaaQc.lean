import Derived.Test.YtkalppcekmlgbaaQb
namespace Go.Proofs.Ytkalppcekmlgbaa
open Go.RowKit

theorem BkP.same {B : Nat} {w : World} {b : Nat} {vl : Value} {l : List Pr} (h : Bk B w b vl l) : BkP B w w b vl vl l := ⟨h, (Kept.refl _ w), .inl rfl⟩

theorem cut_fin {B : Nat} {w w3 : World} {b m : Nat} {vl v : Value} {l A : List Pr} {xs : List Value} {key : ByteArray} (e : bcut key l = A) (hm : m = A.length) (hx : xs = A.flatMap pc)
    (z : w3.cell? ⟨b, 0, none⟩ = some vl ∧ w3.heap[b]? = some (.cells #[vl] 32 (0, 0)) ∧ w3.ownsRow B 64 2 v m xs ∧ (v.ownBlock = none ∨ ∃ k, w.heap.size ≤ k ∧ v.ownBlock = some k) ∧ Kept (fun _ => False) w w3) : BkP B w (w3.setCell ⟨b, 0, none⟩ v) b vl v (bcut key l) := by
  obtain ⟨-, z1, z2, z3, z4⟩ := z
  subst hm hx
  rw [e]
  refine ⟨⟨set_block (i := 0) z1 v, ownsRow_setCell_other z2 (own_ne_blk z2 z1 (by decide)) _⟩, (z4.mono (fun _ _ h => h.elim)).setCell (p := ⟨b, 0, none⟩) (fun _ => .inl rfl) _, ?_⟩
  rcases z3 with h | h
  · exact .inr (.inl h)
  · exact .inr (.inr h)

set_option maxRecDepth 100000 in
set_option maxHeartbeats 4000000 in
theorem bcut_any (B b : Nat) (vl : Value) (l : List Pr) (key : ByteArray) (w : World) (h : Bk B w b vl l) (hB : B ≤ w.heap.size) (hl : l.length ≤ 1000000) :
    Calls Try.prog 32 #[.pointer (some ⟨b, 0, none⟩), .string key] w fun x w' => ∃ vl', x = .returned (bgetV key l) ∧ BkP B w w' b vl vl' (bcut key l) := by
  have P := hid (place_any B b vl l key w h hl)
  have c0 := cells1 h.blk
  have hpl := plc_le key l
  have hbl := hp_lt h.blk
  obtain ⟨i, hi⟩ : ∃ i, plc key l = i := ⟨_, rfl⟩
  rw [hi] at P hpl
  by_cases hlt : i < l.length
  · have heq : ((i : Int) == (l.length : Int)) = false := by rw [beq_eq_false_iff_ne]; omega
    rcases h.shape with ⟨rfl, rfl⟩ | ⟨g, cap, rfl, hc, _⟩
    · simp at hlt
    obtain ⟨d0, d1⟩ := h.cells i hlt
    by_cases hk : l[i].1 = key
    · have hh : has key l = true := by unfold has; rw [hi, List.getElem?_eq_getElem hlt]; simpa using hk
      have HR := hid (show bgetV key l = .tuple #[.int .i64 l[i].2, .bool true] by rw [bgetV, hi, List.getElem?_eq_getElem hlt]; simp [hk])
      have HL := hid (show bcut key l = l.take i ++ l.drop (i + 1) by rw [bcut, hh, hi]; rfl)
      have hk' : (l[i].1.toList == key.toList) = true := keq_iff.2 hk
      have HH := hid h
      have hm := h.cap
      have R1 := hid (rf_take h hm hc i hpl)
      have HC := hid (And.intro hm hc)
      clear h hi hh hk
      by_cases h2 : i + 1 < l.length
      · skip
        generalize hP : (fun (x : Ending) (w' : World) => ∃ vl', x = .returned (bgetV key l) ∧ BkP B w w' b (.slice (some ⟨g, 0, none⟩) l.length cap) vl' (bcut key l)) = PP
        have HP := hid hP
        clear hP
        go_enter Try.func32, Try.ntmps32
        go_wp2_with (first
          | (go_at_call 30; refine P.out.mono ?_; rintro e w1 ⟨rfl, e1⟩; rw [e1]; clear e1 w1)
          | (at_builtin
             refine wpList_append_rf w rfl (.tmp 39) (.tmp 45) 30 64 _ 2 24 rfl Try.underlying30 Try.info64 rfl (by omega) B (.slice none 0 0) 0 [] rfl (World.ownsRow_nil _ _ _ _) (.slice (some ⟨g, 0, none⟩) i cap) i ((l.take i).flatMap pc) rfl R1.out (by omega) (by unfold maxLen; omega) hB ?_
             intro a1 q1 w1 ho1 hg1 hat1
             simp only [Nat.zero_add, List.nil_append] at ho1 hat1
             have Z1 := hid (app1 HH.out ho1.out hg1.out hat1.out)
             have y0 := Z1.out.1
             have hz1 := Z1.out.2.1
             clear ho1 hg1 hat1)
          | (at_builtin
             refine wpList_append_rf w1 rfl (.tmp 48) (.tmp 55) 30 64 _ 2 24 rfl Try.underlying30 Try.info64 rfl (by omega) B _ _ _ rfl Z1.out.2.2.2.1 (.slice (some ⟨g, (i + 1) * 2, none⟩) (l.length - (i + 1)) (cap - (i + 1))) (l.length - (i + 1)) ((l.drop (i + 1)).flatMap pc) rfl (rf_drop ⟨Z1.out.2.2.2.2.2.1, Z1.out.2.2.2.2.1⟩ HC.out.1 HC.out.2 (i + 1) (by omega)) (by omega) (by unfold maxLen; omega) (by omega) ?_
             intro a3 q3 w3 ho3 hg3 hat3
             have Z3 := hid (app3 HH.out Z1.out ho3.out hg3.out hat3.out)
             have u0 := Z3.out.1
             have ff : ∀ j, w3.frozen? ⟨b, j, none⟩ = false := fun j => free_of_block Z3.out.2.1
             clear ho3 hg3 hat3))
        rw [← HP.out]
        exact ⟨_, by rw [HR.out]; rfl, cut_fin HL.out (by simp; omega) (by simp) Z3.out⟩
      · have hge : l.length ≤ i + 1 := by omega
        clear h2
        by_cases hci : cap = i + 1
        · subst hci
          generalize hP : (fun (x : Ending) (w' : World) => ∃ vl', x = .returned (bgetV key l) ∧ BkP B w w' b (.slice (some ⟨g, 0, none⟩) l.length (i + 1)) vl' (bcut key l)) = PP
          have HP := hid hP
          clear hP
          go_enter Try.func32, Try.ntmps32
          go_wp2_with (first
            | (go_at_call 30; refine P.out.mono ?_; rintro e w1 ⟨rfl, e1⟩; rw [e1]; clear e1 w1)
            | (at_builtin
               refine wpList_append_rf w rfl (.tmp 39) (.tmp 45) 30 64 _ 2 24 rfl Try.underlying30 Try.info64 rfl (by omega) B (.slice none 0 0) 0 [] rfl (World.ownsRow_nil _ _ _ _) (.slice (some ⟨g, 0, none⟩) i (i + 1)) i ((l.take i).flatMap pc) rfl R1.out (by omega) (by unfold maxLen; omega) hB ?_
               intro a1 q1 w1 ho1 hg1 hat1
               simp only [Nat.zero_add, List.nil_append] at ho1 hat1
               have Z1 := hid (app1 HH.out ho1.out hg1.out hat1.out)
               have y0 := Z1.out.1
               have hz1 := Z1.out.2.1
               clear ho1 hg1 hat1)
            | (at_builtin
               refine wpList_append_rf w1 rfl (.tmp 48) (.tmp 55) 30 64 _ 2 24 rfl Try.underlying30 Try.info64 rfl (by omega) B _ _ _ rfl Z1.out.2.2.2.1 (.slice (some ⟨g, 0, none⟩) 0 0) 0 [] rfl (rf_zero w1 g 0 0 (by unfold maxLen; omega)) (by omega) (by unfold maxLen; omega) (by omega) ?_
               intro a3 q3 w3 ho3 hg3 hat3
               have Z3 := hid (app3 HH.out Z1.out ho3.out hg3.out hat3.out)
               have u0 := Z3.out.1
               have ff : ∀ j, w3.frozen? ⟨b, j, none⟩ = false := fun j => free_of_block Z3.out.2.1
               clear ho3 hg3 hat3))
          rw [← HP.out]
          exact ⟨_, by rw [HR.out]; rfl, cut_fin HL.out (by simp; omega) (by rw [List.drop_of_length_le hge]; simp) Z3.out⟩
        · have hci' : i + 1 < cap := by omega
          clear hci
          generalize hP : (fun (x : Ending) (w' : World) => ∃ vl', x = .returned (bgetV key l) ∧ BkP B w w' b (.slice (some ⟨g, 0, none⟩) l.length cap) vl' (bcut key l)) = PP
          have HP := hid hP
          clear hP
          go_enter Try.func32, Try.ntmps32
          go_wp2_with (first
            | (go_at_call 30; refine P.out.mono ?_; rintro e w1 ⟨rfl, e1⟩; rw [e1]; clear e1 w1)
            | (at_builtin
               refine wpList_append_rf w rfl (.tmp 39) (.tmp 45) 30 64 _ 2 24 rfl Try.underlying30 Try.info64 rfl (by omega) B (.slice none 0 0) 0 [] rfl (World.ownsRow_nil _ _ _ _) (.slice (some ⟨g, 0, none⟩) i cap) i ((l.take i).flatMap pc) rfl R1.out (by omega) (by unfold maxLen; omega) hB ?_
               intro a1 q1 w1 ho1 hg1 hat1
               simp only [Nat.zero_add, List.nil_append] at ho1 hat1
               have Z1 := hid (app1 HH.out ho1.out hg1.out hat1.out)
               have y0 := Z1.out.1
               have hz1 := Z1.out.2.1
               clear ho1 hg1 hat1)
            | (at_builtin
               refine wpList_append_rf w1 rfl (.tmp 48) (.tmp 55) 30 64 _ 2 24 rfl Try.underlying30 Try.info64 rfl (by omega) B _ _ _ rfl Z1.out.2.2.2.1 (.slice (some ⟨g, (i + 1) * 2, none⟩) 0 (cap - (i + 1))) 0 [] rfl (rf_zero w1 g _ _ (by have := HC.out.1; omega)) (by omega) (by unfold maxLen; omega) (by omega) ?_
               intro a3 q3 w3 ho3 hg3 hat3
               have Z3 := hid (app3 HH.out Z1.out ho3.out hg3.out hat3.out)
               have u0 := Z3.out.1
               have ff : ∀ j, w3.frozen? ⟨b, j, none⟩ = false := fun j => free_of_block Z3.out.2.1
               clear ho3 hg3 hat3))
          rw [← HP.out]
          exact ⟨_, by rw [HR.out]; rfl, cut_fin HL.out (by simp; omega) (by rw [List.drop_of_length_le hge]; simp) Z3.out⟩
    · have hh : has key l = false := by unfold has; rw [hi, List.getElem?_eq_getElem hlt]; simpa using hk
      have HR := hid (show bgetV key l = .tuple #[.int .i64 0, .bool false] by rw [bgetV, hi, List.getElem?_eq_getElem hlt]; simp [hk])
      have HL := hid (show bcut key l = l by rw [bcut, hh]; rfl)
      have hk' : (l[i].1.toList == key.toList) = false := keq_false hk
      have HH := hid h
      clear h hi hh hk
      generalize hP : (fun (x : Ending) (w' : World) => ∃ vl', x = .returned (bgetV key l) ∧ BkP B w w' b (.slice (some ⟨g, 0, none⟩) l.length cap) vl' (bcut key l)) = PP
      have HP := hid hP
      clear hP
      go_enter Try.func32, Try.ntmps32
      go_wp2_with (go_at_call 30; refine P.out.mono ?_; rintro e w1 ⟨rfl, e1⟩; rw [e1]; clear e1 w1)
      rw [← HP.out]
      exact ⟨_, by rw [HR.out]; rfl, by rw [HL.out]; exact BkP.same HH.out⟩
  · have heq : ((i : Int) == (l.length : Int)) = true := by rw [beq_iff_eq]; omega
    have hh : has key l = false := by unfold has; rw [hi, len0 hlt]
    have HR := hid (show bgetV key l = .tuple #[.int .i64 0, .bool false] by rw [bgetV, hi, len0 hlt])
    have HL := hid (show bcut key l = l by rw [bcut, hh]; rfl)
    have HH := hid h
    obtain ⟨ao, cap, rfl⟩ := own_shape h.own
    clear h hi hh
    generalize hP : (fun (x : Ending) (w' : World) => ∃ vl', x = .returned (bgetV key l) ∧ BkP B w w' b (.slice ao l.length cap) vl' (bcut key l)) = PP
    have HP := hid hP
    clear hP
    go_enter Try.func32, Try.ntmps32
    go_wp2_with (go_at_call 30; refine P.out.mono ?_; rintro e w1 ⟨rfl, e1⟩; rw [e1]; clear e1 w1)
    rw [← HP.out]
    exact ⟨_, by rw [HR.out]; rfl, by rw [HL.out]; exact BkP.same HH.out⟩

end Go.Proofs.Ytkalppcekmlgbaa
