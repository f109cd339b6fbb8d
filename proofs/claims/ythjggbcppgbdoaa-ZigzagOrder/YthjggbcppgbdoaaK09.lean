import Derived.Test.YthjggbcppgbdoaaK08
namespace Go.Proofs.Ythjggbcppgbdoaa
open Go.RowKit

theorem rf_zero7 (w : World) (g off c : Nat) (hc : c ≤ maxLen) : Rf w 7 (.slice (some ⟨g, off, none⟩) 0 c) 0 [] :=
  ⟨rfl, (fun _ h => nomatch h), .inr ⟨_, c, rfl, Nat.zero_le _, hc, fun j u hu => (by simp at hu)⟩⟩

set_option maxRecDepth 100000 in
set_option maxHeartbeats 8000000 in
theorem rwith0_full (g off : Nat) (m : Bool) (l : List Pl) (i : Nat) (e : Pl) (w : World) (hN : l.length = i) (h : Rf w 7 (.slice (some ⟨g, off, none⟩) (i) (i)) (i) (l.flatMap plC)) (hl : i ≤ 1000000) (hm : i ≤ maxLen) :
    Calls Try.prog 64 #[.agg #[.slice (some ⟨g, off, none⟩) (i) (i), .bool m], .int .i64 i, .int .i64 0, .agg (plA e)] w (WiP l (i) i e m w) := by
  have HN := hid hN
  have HD := hid (show (l.drop (i)).flatMap plC = [] from by rw [List.drop_eq_nil_of_le (by omega)]; rfl)
  have h' : Rl w (.slice (some ⟨g, off, none⟩) l.length (i)) l := by rw [Rl, hN]; exact h
  have R1 := hid (rl_take (h'.below (wiW_below w (.slice (some ⟨g, off, none⟩) (i) (i)) m e)) i (by omega) (by omega) hm)
  have W0 := hid (show Wi w (.slice (some ⟨g, off, none⟩) (i) (i)) m e (wiW w (.slice (some ⟨g, off, none⟩) (i) (i)) m e) (.slice none 0 0) 0 [] from ⟨World.ownsRow_nil _ _ _ _, Below.refl _ _⟩)
  have B0 := hid (wib (Below.refl (wiW w (.slice (some ⟨g, off, none⟩) (i) (i)) m e).heap.size _))
  obtain ⟨b0, b1⟩ := cells2 B0.out.s
  generalize hP : WiP l (i) i e m w = PP
  have HP := hid hP
  clear h h' hP hN
  go_enter Try.func64, Try.ntmps64
  go_wp2_with (first
    | (at_builtin
       refine wpList_append_rf (wiW w (.slice (some ⟨g, off, none⟩) (i) (i)) m e) rfl (.tmp 10) (.tmp 14) 32 84 _ 7 56 rfl Try.underlying32 Try.info84 rfl (by omega) (wiW w (.slice (some ⟨g, off, none⟩) (i) (i)) m e).heap.size (.slice none 0 0) 0 [] rfl (World.ownsRow_nil _ _ _ _) (.slice (some ⟨g, off, none⟩) i (i)) (i) ((l.take i).flatMap plC) rfl R1.out (by omega) (by unfold maxLen; omega) (Nat.le_refl _) ?_
       intro a1 q1 w1 ho1 hg1 hat1
       simp only [Nat.zero_add, List.nil_append] at ho1
       have Z1 := hid (W0.out.step (Below.refl _ _) ho1.out hg1.out)
       have X1 := hid (wib Z1.out.bl)
       obtain ⟨y0, y1⟩ := cells2 X1.out.s
       obtain ⟨p0, p1, p2, p3, p4, p5, p6⟩ := cells7 X1.out.p
       clear ho1 hg1 hat1)
    | (at_builtin
       refine wpList_append_rf (w1.alloc (.cells (plA e) 84)) rfl (.tmp 16) (.tmp 18) 32 84 _ 7 56 rfl Try.underlying32 Try.info84 rfl (by omega) (wiW w (.slice (some ⟨g, off, none⟩) (i) (i)) m e).heap.size _ _ _ rfl (Z1.out.ow.alloc _) (.slice (some ⟨w1.heap.size, 0, none⟩) 1 1) 1 (plC e) rfl (rf_pl w1 e) (by omega) (by unfold maxLen; omega) (Nat.le_trans Z1.out.bl.size (by simp)) ?_
       intro a2 q2 w2 ho2 hg2 hat2
       have Z2 := hid (Z1.out.step (below_new _ _) ho2.out hg2.out)
       have X2 := hid (wib Z2.out.bl)
       obtain ⟨x0, x1⟩ := cells2 X2.out.s
       clear ho2 hg2 hat2)
    | (at_builtin
       refine wpList_append_rf w2 rfl (.tmp 20) (.tmp 26) 32 84 _ 7 56 rfl Try.underlying32 Try.info84 rfl (by omega) (wiW w (.slice (some ⟨g, off, none⟩) (i) (i)) m e).heap.size _ _ _ rfl Z2.out.ow (.slice (some ⟨g, off, none⟩) 0 0) (0) ([]) rfl (rf_zero7 w2 g off 0 (by unfold maxLen; omega)) (by omega) (by unfold maxLen; omega) Z2.out.bl.size ?_
       intro a3 q3 w3 ho3 hg3 hat3
       have Z3 := hid (Z2.out.step (Below.refl _ _) ho3.out hg3.out)
       have X3 := hid (wib Z3.out.bl)
       obtain ⟨u0, u1⟩ := cells2 X3.out.s
       obtain ⟨r0, r1⟩ := cells2 X3.out.r
       have ff : ∀ j, w3.frozen? ⟨w.heap.size, j, none⟩ = false := fun j => free_of_block X3.out.s
       have fr : ∀ j, w3.frozen? ⟨w.heap.size + 2, j, none⟩ = false := fun j => free_of_block X3.out.r
       clear ho3 hg3 hat3))
  refine bodyPost_ret (ret_agg34 Try.results64 rfl (set2 (hp_set X3.out.r (by show w.heap.size + 2 ≠ w.heap.size; omega) _) _ _)) rfl ?_
  rw [← HP.out]
  exact wi_fin (l := l) (by rw [HD.out]; exact Z3.out) (by have := HN.out; omega) (by have := HN.out; omega) (by have := HN.out; omega)

set_option maxRecDepth 100000 in
set_option maxHeartbeats 8000000 in
theorem rwith0_room (g off cap : Nat) (m : Bool) (l : List Pl) (i : Nat) (e : Pl) (w : World) (hN : l.length = i) (h : Rf w 7 (.slice (some ⟨g, off, none⟩) (i) cap) (i) (l.flatMap plC)) (hl : i ≤ 1000000) (hcp : i < cap) (hm : cap ≤ maxLen) :
    Calls Try.prog 64 #[.agg #[.slice (some ⟨g, off, none⟩) (i) cap, .bool m], .int .i64 i, .int .i64 0, .agg (plA e)] w (WiP l (i) i e m w) := by
  have HN := hid hN
  have HD := hid (show (l.drop (i)).flatMap plC = [] from by rw [List.drop_eq_nil_of_le (by omega)]; rfl)
  have h' : Rl w (.slice (some ⟨g, off, none⟩) l.length cap) l := by rw [Rl, hN]; exact h
  have R1 := hid (rl_take (h'.below (wiW_below w (.slice (some ⟨g, off, none⟩) (i) cap) m e)) i (by omega) (by omega) hm)
  have W0 := hid (show Wi w (.slice (some ⟨g, off, none⟩) (i) cap) m e (wiW w (.slice (some ⟨g, off, none⟩) (i) cap) m e) (.slice none 0 0) 0 [] from ⟨World.ownsRow_nil _ _ _ _, Below.refl _ _⟩)
  have B0 := hid (wib (Below.refl (wiW w (.slice (some ⟨g, off, none⟩) (i) cap) m e).heap.size _))
  obtain ⟨b0, b1⟩ := cells2 B0.out.s
  generalize hP : WiP l (i) i e m w = PP
  have HP := hid hP
  clear h h' hP hN
  go_enter Try.func64, Try.ntmps64
  go_wp2_with (first
    | (at_builtin
       refine wpList_append_rf (wiW w (.slice (some ⟨g, off, none⟩) (i) cap) m e) rfl (.tmp 10) (.tmp 14) 32 84 _ 7 56 rfl Try.underlying32 Try.info84 rfl (by omega) (wiW w (.slice (some ⟨g, off, none⟩) (i) cap) m e).heap.size (.slice none 0 0) 0 [] rfl (World.ownsRow_nil _ _ _ _) (.slice (some ⟨g, off, none⟩) i cap) (i) ((l.take i).flatMap plC) rfl R1.out (by omega) (by unfold maxLen; omega) (Nat.le_refl _) ?_
       intro a1 q1 w1 ho1 hg1 hat1
       simp only [Nat.zero_add, List.nil_append] at ho1
       have Z1 := hid (W0.out.step (Below.refl _ _) ho1.out hg1.out)
       have X1 := hid (wib Z1.out.bl)
       obtain ⟨y0, y1⟩ := cells2 X1.out.s
       obtain ⟨p0, p1, p2, p3, p4, p5, p6⟩ := cells7 X1.out.p
       clear ho1 hg1 hat1)
    | (at_builtin
       refine wpList_append_rf (w1.alloc (.cells (plA e) 84)) rfl (.tmp 16) (.tmp 18) 32 84 _ 7 56 rfl Try.underlying32 Try.info84 rfl (by omega) (wiW w (.slice (some ⟨g, off, none⟩) (i) cap) m e).heap.size _ _ _ rfl (Z1.out.ow.alloc _) (.slice (some ⟨w1.heap.size, 0, none⟩) 1 1) 1 (plC e) rfl (rf_pl w1 e) (by omega) (by unfold maxLen; omega) (Nat.le_trans Z1.out.bl.size (by simp)) ?_
       intro a2 q2 w2 ho2 hg2 hat2
       have Z2 := hid (Z1.out.step (below_new _ _) ho2.out hg2.out)
       have X2 := hid (wib Z2.out.bl)
       obtain ⟨x0, x1⟩ := cells2 X2.out.s
       clear ho2 hg2 hat2)
    | (at_builtin
       refine wpList_append_rf w2 rfl (.tmp 20) (.tmp 26) 32 84 _ 7 56 rfl Try.underlying32 Try.info84 rfl (by omega) (wiW w (.slice (some ⟨g, off, none⟩) (i) cap) m e).heap.size _ _ _ rfl Z2.out.ow (.slice (some ⟨g, off + (i) * 7, none⟩) 0 (cap - (i))) (0) ([]) rfl (rf_zero7 w2 g (off + (i) * 7) (cap - (i)) (by omega)) (by omega) (by unfold maxLen; omega) Z2.out.bl.size ?_
       intro a3 q3 w3 ho3 hg3 hat3
       have Z3 := hid (Z2.out.step (Below.refl _ _) ho3.out hg3.out)
       have X3 := hid (wib Z3.out.bl)
       obtain ⟨u0, u1⟩ := cells2 X3.out.s
       obtain ⟨r0, r1⟩ := cells2 X3.out.r
       have ff : ∀ j, w3.frozen? ⟨w.heap.size, j, none⟩ = false := fun j => free_of_block X3.out.s
       have fr : ∀ j, w3.frozen? ⟨w.heap.size + 2, j, none⟩ = false := fun j => free_of_block X3.out.r
       clear ho3 hg3 hat3))
  refine bodyPost_ret (ret_agg34 Try.results64 rfl (set2 (hp_set X3.out.r (by show w.heap.size + 2 ≠ w.heap.size; omega) _) _ _)) rfl ?_
  rw [← HP.out]
  exact wi_fin (l := l) (by rw [HD.out]; exact Z3.out) (by have := HN.out; omega) (by have := HN.out; omega) (by have := HN.out; omega)

set_option maxRecDepth 100000 in
set_option maxHeartbeats 8000000 in
theorem rwith0_nil (m : Bool) (e : Pl) (w : World) : Calls Try.prog 64 #[.agg #[.slice none 0 0, .bool m], .int .i64 0, .int .i64 0, .agg (plA e)] w (WiP [] 0 0 e m w) := by
  have W0 := hid (show Wi w (.slice none 0 0) m e (wiW w (.slice none 0 0) m e) (.slice none 0 0) 0 [] from ⟨World.ownsRow_nil _ _ _ _, Below.refl _ _⟩)
  have B0 := hid (wib (Below.refl (wiW w (.slice none 0 0) m e).heap.size _))
  obtain ⟨b0, b1⟩ := cells2 B0.out.s
  generalize hP : WiP [] 0 0 e m w = PP
  have HP := hid hP
  clear hP
  go_enter Try.func64, Try.ntmps64
  go_wp2_with (first
    | (at_builtin
       refine wpList_append_rf (wiW w (.slice none 0 0) m e) rfl (.tmp 10) (.tmp 14) 32 84 _ 7 56 rfl Try.underlying32 Try.info84 rfl (by omega) (wiW w (.slice none 0 0) m e).heap.size (.slice none 0 0) 0 [] rfl (World.ownsRow_nil _ _ _ _) (.slice none 0 0) (0) ([]) rfl (rf_nil _ _) (by omega) (by unfold maxLen; omega) (Nat.le_refl _) ?_
       intro a1 q1 w1 ho1 hg1 hat1
       simp only [Nat.zero_add, List.nil_append] at ho1
       have Z1 := hid (W0.out.step (Below.refl _ _) ho1.out hg1.out)
       have X1 := hid (wib Z1.out.bl)
       obtain ⟨y0, y1⟩ := cells2 X1.out.s
       obtain ⟨p0, p1, p2, p3, p4, p5, p6⟩ := cells7 X1.out.p
       clear ho1 hg1 hat1)
    | (at_builtin
       refine wpList_append_rf (w1.alloc (.cells (plA e) 84)) rfl (.tmp 16) (.tmp 18) 32 84 _ 7 56 rfl Try.underlying32 Try.info84 rfl (by omega) (wiW w (.slice none 0 0) m e).heap.size _ _ _ rfl (Z1.out.ow.alloc _) (.slice (some ⟨w1.heap.size, 0, none⟩) 1 1) 1 (plC e) rfl (rf_pl w1 e) (by omega) (by unfold maxLen; omega) (Nat.le_trans Z1.out.bl.size (by simp)) ?_
       intro a2 q2 w2 ho2 hg2 hat2
       have Z2 := hid (Z1.out.step (below_new _ _) ho2.out hg2.out)
       have X2 := hid (wib Z2.out.bl)
       obtain ⟨x0, x1⟩ := cells2 X2.out.s
       clear ho2 hg2 hat2)
    | (at_builtin
       refine wpList_append_rf w2 rfl (.tmp 20) (.tmp 26) 32 84 _ 7 56 rfl Try.underlying32 Try.info84 rfl (by omega) (wiW w (.slice none 0 0) m e).heap.size _ _ _ rfl Z2.out.ow (.slice none 0 0) (0) ([]) rfl (rf_nil _ _) (by omega) (by unfold maxLen; omega) Z2.out.bl.size ?_
       intro a3 q3 w3 ho3 hg3 hat3
       have Z3 := hid (Z2.out.step (Below.refl _ _) ho3.out hg3.out)
       have X3 := hid (wib Z3.out.bl)
       obtain ⟨u0, u1⟩ := cells2 X3.out.s
       obtain ⟨r0, r1⟩ := cells2 X3.out.r
       have ff : ∀ j, w3.frozen? ⟨w.heap.size, j, none⟩ = false := fun j => free_of_block X3.out.s
       have fr : ∀ j, w3.frozen? ⟨w.heap.size + 2, j, none⟩ = false := fun j => free_of_block X3.out.r
       clear ho3 hg3 hat3))
  refine bodyPost_ret (ret_agg34 Try.results64 rfl (set2 (hp_set X3.out.r (by show w.heap.size + 2 ≠ w.heap.size; omega) _) _ _)) rfl ?_
  rw [← HP.out]
  exact wi_fin (l := []) Z3.out (by simp) (by simp) (by simp)

set_option maxRecDepth 100000 in
set_option maxHeartbeats 8000000 in
theorem rwith1_full (g off : Nat) (m : Bool) (l : List Pl) (i : Nat) (e : Pl) (w : World) (hN : l.length = i + 1) (h : Rf w 7 (.slice (some ⟨g, off, none⟩) (i + 1) (i + 1)) (i + 1) (l.flatMap plC)) (hl : i + 1 ≤ 1000000) (hm : i + 1 ≤ maxLen) :
    Calls Try.prog 64 #[.agg #[.slice (some ⟨g, off, none⟩) (i + 1) (i + 1), .bool m], .int .i64 i, .int .i64 1, .agg (plA e)] w (WiP l (i + 1) i e m w) := by
  have HN := hid hN
  have HD := hid (show (l.drop (i + 1)).flatMap plC = [] from by rw [List.drop_eq_nil_of_le (by omega)]; rfl)
  have h' : Rl w (.slice (some ⟨g, off, none⟩) l.length (i + 1)) l := by rw [Rl, hN]; exact h
  have R1 := hid (rl_take (h'.below (wiW_below w (.slice (some ⟨g, off, none⟩) (i + 1) (i + 1)) m e)) i (by omega) (by omega) hm)
  have W0 := hid (show Wi w (.slice (some ⟨g, off, none⟩) (i + 1) (i + 1)) m e (wiW w (.slice (some ⟨g, off, none⟩) (i + 1) (i + 1)) m e) (.slice none 0 0) 0 [] from ⟨World.ownsRow_nil _ _ _ _, Below.refl _ _⟩)
  have B0 := hid (wib (Below.refl (wiW w (.slice (some ⟨g, off, none⟩) (i + 1) (i + 1)) m e).heap.size _))
  obtain ⟨b0, b1⟩ := cells2 B0.out.s
  generalize hP : WiP l (i + 1) i e m w = PP
  have HP := hid hP
  clear h h' hP hN
  go_enter Try.func64, Try.ntmps64
  go_wp2_with (first
    | (at_builtin
       refine wpList_append_rf (wiW w (.slice (some ⟨g, off, none⟩) (i + 1) (i + 1)) m e) rfl (.tmp 10) (.tmp 14) 32 84 _ 7 56 rfl Try.underlying32 Try.info84 rfl (by omega) (wiW w (.slice (some ⟨g, off, none⟩) (i + 1) (i + 1)) m e).heap.size (.slice none 0 0) 0 [] rfl (World.ownsRow_nil _ _ _ _) (.slice (some ⟨g, off, none⟩) i (i + 1)) (i) ((l.take i).flatMap plC) rfl R1.out (by omega) (by unfold maxLen; omega) (Nat.le_refl _) ?_
       intro a1 q1 w1 ho1 hg1 hat1
       simp only [Nat.zero_add, List.nil_append] at ho1
       have Z1 := hid (W0.out.step (Below.refl _ _) ho1.out hg1.out)
       have X1 := hid (wib Z1.out.bl)
       obtain ⟨y0, y1⟩ := cells2 X1.out.s
       obtain ⟨p0, p1, p2, p3, p4, p5, p6⟩ := cells7 X1.out.p
       clear ho1 hg1 hat1)
    | (at_builtin
       refine wpList_append_rf (w1.alloc (.cells (plA e) 84)) rfl (.tmp 16) (.tmp 18) 32 84 _ 7 56 rfl Try.underlying32 Try.info84 rfl (by omega) (wiW w (.slice (some ⟨g, off, none⟩) (i + 1) (i + 1)) m e).heap.size _ _ _ rfl (Z1.out.ow.alloc _) (.slice (some ⟨w1.heap.size, 0, none⟩) 1 1) 1 (plC e) rfl (rf_pl w1 e) (by omega) (by unfold maxLen; omega) (Nat.le_trans Z1.out.bl.size (by simp)) ?_
       intro a2 q2 w2 ho2 hg2 hat2
       have Z2 := hid (Z1.out.step (below_new _ _) ho2.out hg2.out)
       have X2 := hid (wib Z2.out.bl)
       obtain ⟨x0, x1⟩ := cells2 X2.out.s
       clear ho2 hg2 hat2)
    | (at_builtin
       refine wpList_append_rf w2 rfl (.tmp 20) (.tmp 26) 32 84 _ 7 56 rfl Try.underlying32 Try.info84 rfl (by omega) (wiW w (.slice (some ⟨g, off, none⟩) (i + 1) (i + 1)) m e).heap.size _ _ _ rfl Z2.out.ow (.slice (some ⟨g, off, none⟩) 0 0) (0) ([]) rfl (rf_zero7 w2 g off 0 (by unfold maxLen; omega)) (by omega) (by unfold maxLen; omega) Z2.out.bl.size ?_
       intro a3 q3 w3 ho3 hg3 hat3
       have Z3 := hid (Z2.out.step (Below.refl _ _) ho3.out hg3.out)
       have X3 := hid (wib Z3.out.bl)
       obtain ⟨u0, u1⟩ := cells2 X3.out.s
       obtain ⟨r0, r1⟩ := cells2 X3.out.r
       have ff : ∀ j, w3.frozen? ⟨w.heap.size, j, none⟩ = false := fun j => free_of_block X3.out.s
       have fr : ∀ j, w3.frozen? ⟨w.heap.size + 2, j, none⟩ = false := fun j => free_of_block X3.out.r
       clear ho3 hg3 hat3))
  refine bodyPost_ret (ret_agg34 Try.results64 rfl (set2 (hp_set X3.out.r (by show w.heap.size + 2 ≠ w.heap.size; omega) _) _ _)) rfl ?_
  rw [← HP.out]
  exact wi_fin (l := l) (by rw [HD.out]; exact Z3.out) (by have := HN.out; omega) (by have := HN.out; omega) (by have := HN.out; omega)

set_option maxRecDepth 100000 in
set_option maxHeartbeats 8000000 in
theorem rwith1_room (g off cap : Nat) (m : Bool) (l : List Pl) (i : Nat) (e : Pl) (w : World) (hN : l.length = i + 1) (h : Rf w 7 (.slice (some ⟨g, off, none⟩) (i + 1) cap) (i + 1) (l.flatMap plC)) (hl : i + 1 ≤ 1000000) (hcp : i + 1 < cap) (hm : cap ≤ maxLen) :
    Calls Try.prog 64 #[.agg #[.slice (some ⟨g, off, none⟩) (i + 1) cap, .bool m], .int .i64 i, .int .i64 1, .agg (plA e)] w (WiP l (i + 1) i e m w) := by
  have HN := hid hN
  have HD := hid (show (l.drop (i + 1)).flatMap plC = [] from by rw [List.drop_eq_nil_of_le (by omega)]; rfl)
  have h' : Rl w (.slice (some ⟨g, off, none⟩) l.length cap) l := by rw [Rl, hN]; exact h
  have R1 := hid (rl_take (h'.below (wiW_below w (.slice (some ⟨g, off, none⟩) (i + 1) cap) m e)) i (by omega) (by omega) hm)
  have W0 := hid (show Wi w (.slice (some ⟨g, off, none⟩) (i + 1) cap) m e (wiW w (.slice (some ⟨g, off, none⟩) (i + 1) cap) m e) (.slice none 0 0) 0 [] from ⟨World.ownsRow_nil _ _ _ _, Below.refl _ _⟩)
  have B0 := hid (wib (Below.refl (wiW w (.slice (some ⟨g, off, none⟩) (i + 1) cap) m e).heap.size _))
  obtain ⟨b0, b1⟩ := cells2 B0.out.s
  generalize hP : WiP l (i + 1) i e m w = PP
  have HP := hid hP
  clear h h' hP hN
  go_enter Try.func64, Try.ntmps64
  go_wp2_with (first
    | (at_builtin
       refine wpList_append_rf (wiW w (.slice (some ⟨g, off, none⟩) (i + 1) cap) m e) rfl (.tmp 10) (.tmp 14) 32 84 _ 7 56 rfl Try.underlying32 Try.info84 rfl (by omega) (wiW w (.slice (some ⟨g, off, none⟩) (i + 1) cap) m e).heap.size (.slice none 0 0) 0 [] rfl (World.ownsRow_nil _ _ _ _) (.slice (some ⟨g, off, none⟩) i cap) (i) ((l.take i).flatMap plC) rfl R1.out (by omega) (by unfold maxLen; omega) (Nat.le_refl _) ?_
       intro a1 q1 w1 ho1 hg1 hat1
       simp only [Nat.zero_add, List.nil_append] at ho1
       have Z1 := hid (W0.out.step (Below.refl _ _) ho1.out hg1.out)
       have X1 := hid (wib Z1.out.bl)
       obtain ⟨y0, y1⟩ := cells2 X1.out.s
       obtain ⟨p0, p1, p2, p3, p4, p5, p6⟩ := cells7 X1.out.p
       clear ho1 hg1 hat1)
    | (at_builtin
       refine wpList_append_rf (w1.alloc (.cells (plA e) 84)) rfl (.tmp 16) (.tmp 18) 32 84 _ 7 56 rfl Try.underlying32 Try.info84 rfl (by omega) (wiW w (.slice (some ⟨g, off, none⟩) (i + 1) cap) m e).heap.size _ _ _ rfl (Z1.out.ow.alloc _) (.slice (some ⟨w1.heap.size, 0, none⟩) 1 1) 1 (plC e) rfl (rf_pl w1 e) (by omega) (by unfold maxLen; omega) (Nat.le_trans Z1.out.bl.size (by simp)) ?_
       intro a2 q2 w2 ho2 hg2 hat2
       have Z2 := hid (Z1.out.step (below_new _ _) ho2.out hg2.out)
       have X2 := hid (wib Z2.out.bl)
       obtain ⟨x0, x1⟩ := cells2 X2.out.s
       clear ho2 hg2 hat2)
    | (at_builtin
       refine wpList_append_rf w2 rfl (.tmp 20) (.tmp 26) 32 84 _ 7 56 rfl Try.underlying32 Try.info84 rfl (by omega) (wiW w (.slice (some ⟨g, off, none⟩) (i + 1) cap) m e).heap.size _ _ _ rfl Z2.out.ow (.slice (some ⟨g, off + (i + 1) * 7, none⟩) 0 (cap - (i + 1))) (0) ([]) rfl (rf_zero7 w2 g (off + (i + 1) * 7) (cap - (i + 1)) (by omega)) (by omega) (by unfold maxLen; omega) Z2.out.bl.size ?_
       intro a3 q3 w3 ho3 hg3 hat3
       have Z3 := hid (Z2.out.step (Below.refl _ _) ho3.out hg3.out)
       have X3 := hid (wib Z3.out.bl)
       obtain ⟨u0, u1⟩ := cells2 X3.out.s
       obtain ⟨r0, r1⟩ := cells2 X3.out.r
       have ff : ∀ j, w3.frozen? ⟨w.heap.size, j, none⟩ = false := fun j => free_of_block X3.out.s
       have fr : ∀ j, w3.frozen? ⟨w.heap.size + 2, j, none⟩ = false := fun j => free_of_block X3.out.r
       clear ho3 hg3 hat3))
  refine bodyPost_ret (ret_agg34 Try.results64 rfl (set2 (hp_set X3.out.r (by show w.heap.size + 2 ≠ w.heap.size; omega) _) _ _)) rfl ?_
  rw [← HP.out]
  exact wi_fin (l := l) (by rw [HD.out]; exact Z3.out) (by have := HN.out; omega) (by have := HN.out; omega) (by have := HN.out; omega)

end Go.Proofs.Ythjggbcppgbdoaa

namespace Go.Proofs.Ythjggbcppgbdoaa
open Go.RowKit

/-- The document's list: none where it is empty. -/
def RL (w : World) (v : Value) (l : List Pl) : Prop := Rl w v l ∧ (l = [] → v = .slice none 0 0)

theorem RL.below {w w' : World} {v : Value} {l : List Pl} (h : RL w v l) (hb : Below w.heap.size w w') : RL w' v l := ⟨h.1.below hb, h.2⟩
theorem WiP.rl {l : List Pl} {j i : Nat} {e : Pl} {m : Bool} {w : World} {x : Ending} {w' : World} (h : WiP l j i e m w x w') : ∃ v', x = .returned (.agg #[v', .bool m]) ∧ RL w' v' (l.take i ++ e :: l.drop j) ∧ Below w.heap.size w w' := by
  obtain ⟨v', h1, h2, h3⟩ := h
  exact ⟨v', h1, ⟨h2, fun hc => by simp at hc⟩, h3⟩

theorem rwith0_any (v : Value) (m : Bool) (l : List Pl) (i : Nat) (e : Pl) (w : World) (h : RL w v l) (hi : i ≤ l.length) (hl : l.length ≤ 1000000) :
    Calls Try.prog 64 #[.agg #[v, .bool m], .int .i64 i, .int .i64 0, .agg (plA e)] w fun x w' => ∃ v', x = .returned (.agg #[v', .bool m]) ∧ RL w' v' (l.take i ++ e :: l.drop i) ∧ Below w.heap.size w w' := by
  rcases Nat.eq_zero_or_pos l.length with h0 | h0
  · have hn : l = [] := List.eq_nil_of_length_eq_zero h0
    have hv := h.2 hn
    subst hn hv
    have hi0 : i = 0 := by simpa using hi
    subst hi0
    exact (rwith0_nil m e w).mono (fun x w' hx => hx.rl)
  · by_cases hlt : i < l.length
    · exact (rwith0_mid v m l i e w h.1 hlt hl).mono (fun x w' hx => hx.rl)
    · have hil : l.length = i := by omega
      obtain ⟨g, off, cap, rfl, hc, hm, -⟩ := h.1.lits h0 (by omega)
      have h1 : Rf w 7 (.slice (some ⟨g, off, none⟩) i cap) i (l.flatMap plC) := by have := h.1; rw [Rl, hil] at this; exact this
      rw [hil]
      by_cases hcp : i < cap
      · exact (rwith0_room g off cap m l i e w hil h1 (by omega) hcp hm).mono (fun x w' hx => hx.rl)
      · have hce : cap = i := by omega
        subst hce
        exact (rwith0_full g off m l cap e w hil h1 (by omega) hm).mono (fun x w' hx => hx.rl)

theorem rwith1_any (v : Value) (m : Bool) (l : List Pl) (i : Nat) (e : Pl) (w : World) (h : RL w v l) (hi : i < l.length) (hl : l.length ≤ 1000000) :
    Calls Try.prog 64 #[.agg #[v, .bool m], .int .i64 i, .int .i64 1, .agg (plA e)] w fun x w' => ∃ v', x = .returned (.agg #[v', .bool m]) ∧ RL w' v' (l.take i ++ e :: l.drop (i + 1)) ∧ Below w.heap.size w w' := by
  by_cases hlt : i + 1 < l.length
  · exact (rwith1_mid v m l i e w h.1 hlt hl).mono (fun x w' hx => hx.rl)
  · have hil : l.length = i + 1 := by omega
    obtain ⟨g, off, cap, rfl, hc, hm, -⟩ := h.1.lits (by omega) (by omega)
    have h1 : Rf w 7 (.slice (some ⟨g, off, none⟩) (i + 1) cap) (i + 1) (l.flatMap plC) := by have := h.1; rw [Rl, hil] at this; exact this
    rw [hil]
    by_cases hcp : i + 1 < cap
    · exact (rwith1_room g off cap m l i e w hil h1 (by omega) hcp hm).mono (fun x w' hx => hx.rl)
    · have hce : cap = i + 1 := by omega
      subst hce
      exact (rwith1_full g off m l i e w hil h1 (by omega) hm).mono (fun x w' hx => hx.rl)

end Go.Proofs.Ythjggbcppgbdoaa

namespace Go.Proofs.Ythjggbcppgbdoaa
open Go.RowKit

/-- Put's boxes: the store and the result. -/
abbrev rpW (w : World) (v : Value) (m : Bool) : World := (w.alloc (.cells #[v, .bool m] 34)).alloc (.cells #[.slice none 0 0, .bool false] 34)
theorem rpW_below (w : World) (v : Value) (m : Bool) : Below w.heap.size w (rpW w v m) := (below_new _ _).alloc (by simp) _
theorem rpW_size (w : World) (v : Value) (m : Bool) : (rpW w v m).heap.size = w.heap.size + 2 := by simp [rpW]
theorem rpW_s (w : World) (v : Value) (m : Bool) : (rpW w v m).heap[w.heap.size]? = some (.cells #[v, .bool m] 34 (0, 0)) := hp_alloc (hp_new _ _) _
theorem rpW_r (w : World) (v : Value) (m : Bool) : (rpW w v m).heap[w.heap.size + 1]? = some (.cells #[.slice none 0 0, .bool false] 34 (0, 0)) := by
  have := hp_new (w.alloc (.cells #[v, .bool m] 34)) (.cells #[.slice none 0 0, .bool false] 34)
  simpa using this

/-- A list of places is never in a store's box. -/
theorem rl_off {w : World} {u : Value} {l : List Pl} {b : Nat} {o : Option Addr} {n c : Nat} {q : Bool} (h : Rl w u l) (hl : 0 < l.length) (hb : w.heap[b]? = some (.cells #[.slice o n c, .bool q] 34 (0, 0))) : ∀ k, u.ownBlock = some k → ¬ k = b := by
  intro k hk e
  subst e
  obtain ⟨g, off, cap, rfl, -, -, hc⟩ := h.lits hl (by omega)
  have eg : g = k := by simpa [Value.ownBlock] using hk
  subst eg
  obtain ⟨a, l2, rfl⟩ : ∃ a l2, l = a :: l2 := by
    cases l with
    | nil => simp at hl
    | cons a l2 => exact ⟨a, l2, rfl⟩
  have := hc 0 (.string a.1) (by simp [List.flatMap_cons, plC])
  rw [Nat.add_zero, cell_of_row w g _ _ _ _ hb] at this
  rcases off with _ | _ | off
  · simp at this
  · simp at this
  · simp at this

theorem rp_fin {w w2 : World} {u : Value} {m : Bool} {l : List Pl} {b : Nat} {o : Option Addr} {n c : Nat} {q : Bool} (h : RL w2 u l) (hl : 0 < l.length) (hb : w2.heap[b]? = some (.cells #[.slice o n c, .bool q] 34 (0, 0))) (hB : Below w.heap.size w w2) (hn : w.heap.size ≤ b) :
    ∃ v', Ending.returned (.agg #[u, .bool m]) = .returned (.agg #[v', .bool m]) ∧ RL ((w2.setCell ⟨b, 0, none⟩ u).setCell ⟨b, 1, none⟩ (.bool m)) v' l ∧ Below w.heap.size w ((w2.setCell ⟨b, 0, none⟩ u).setCell ⟨b, 1, none⟩ (.bool m)) := by
  have K : Kept (fun k => k = b) w2 ((w2.setCell ⟨b, 0, none⟩ u).setCell ⟨b, 1, none⟩ (.bool m)) := ((Kept.refl (fun k => k = b) w2).setCell (p := ⟨b, 0, none⟩) (fun _ => rfl) u).setCell (p := ⟨b, 1, none⟩) (fun _ => rfl) (.bool m)
  exact ⟨u, rfl, ⟨h.1.kept K (rl_off h.1 hl hb), h.2⟩, hB.trans (K.below hB.size (fun k hk e => by omega))⟩

set_option maxRecDepth 100000 in
set_option maxHeartbeats 4000000 in
theorem rput_new (v : Value) (m : Bool) (l : List Pl) (key : ByteArray) (k : Int) (w : World) (h : RL w v l) (hl : l.length ≤ 1000000) (hs : rs key l = false) : Calls Try.prog 34 #[.agg #[v, .bool m], .string key, .int .i64 k] w fun x w' => ∃ v', x = .returned (.agg #[v', .bool m]) ∧ RL w' v' (l.take (ri key l) ++ (key, ⟨0, k, false, true, true, true⟩) :: l.drop (ri key l)) ∧ Below w.heap.size w w' := by
  obtain ⟨ao, cap, e, -, -⟩ := h.1.shape
  subst e
  have A2 := hid (show Calls Try.prog 63 #[.agg #[.slice ao l.length cap, .bool m], .string key] (rpW w (.slice ao l.length cap) m) fun x w' => x = .returned (.tuple #[.int .i64 (ri key l), .bool false]) ∧ Below (rpW w (.slice ao l.length cap) m).heap.size (rpW w (.slice ao l.length cap) m) w' from (rat_any _ m l key _ (h.below (rpW_below _ _ _)).1 hl).mono (by
    rintro x w' ⟨rfl, hb⟩
    exact ⟨by rw [hs], hb⟩))
  obtain ⟨y0, y1⟩ := cells2 (rpW_s w (.slice ao l.length cap) m)
  have H := hid h
  have HI := hid (show ri key l ≤ l.length from by unfold ri; exact (List.takeWhile_prefix _).length_le)
  have HL := hid hl
  clear h hs hl
  go_enter Try.func34, Try.ntmps34
  go_wp2_with (first
    | (go_at_call 63
       refine A2.out.mono ?_
       rintro e w1 ⟨rfl, hb⟩
       have B1 := hid hb
       have S1 := hid (hp_below (rpW_s w (.slice ao l.length cap) m) hb (by rw [rpW_size]; omega))
       have R1 := hid (hp_below (rpW_r w (.slice ao l.length cap) m) hb (by rw [rpW_size]; omega))
       have B2 := hid ((below_on (rpW_below w (.slice ao l.length cap) m) hb).alloc (Below.size (below_on (rpW_below w (.slice ao l.length cap) m) hb)) (.cells #[.int .i64 0, .int .i64 k, .bool false, .bool true, .int .i64 1, .int .i64 1] 56))
       obtain ⟨x0, x1⟩ := cells2 (hp_alloc S1.out (.cells #[.int .i64 0, .int .i64 k, .bool false, .bool true, .int .i64 1, .int .i64 1] 56))
       clear hb y0 y1)
    | (go_at_call 64
       refine (rwith0_any (.slice ao l.length cap) m l (ri key l) (key, ⟨0, k, false, true, true, true⟩) (w1.alloc (.cells #[.int .i64 0, .int .i64 k, .bool false, .bool true, .int .i64 1, .int .i64 1] 56)) (H.out.below B2.out) HI.out HL.out).mono ?_
       rintro e w2 ⟨u, rfl, hu, hb⟩
       obtain ⟨ao2, cap2, eu, -, -⟩ := hu.1.shape
       generalize (_ : List Pl).length = n2 at eu
       subst eu
       have U := hid hu
       have B3 := hid hb
       have R2 := hid (hp_below (hp_alloc R1.out (.cells #[.int .i64 0, .int .i64 k, .bool false, .bool true, .int .i64 1, .int .i64 1] 56)) hb (by have := hp_lt R1.out; simp; omega))
       have fr : ∀ j, w2.frozen? ⟨w.heap.size + 1, j, none⟩ = false := fun j => free_of_block R2.out
       obtain ⟨r0, r1⟩ := cells2 R2.out
       clear hu hb))
  refine bodyPost_ret (ret_agg34 Try.results34 rfl (set2 R2.out _ _)) rfl ?_
  exact rp_fin U.out (by rw [List.length_append, List.length_cons]; omega) R2.out (below_on B2.out B3.out) (by omega)

set_option maxRecDepth 100000 in
set_option maxHeartbeats 4000000 in
theorem rput_has1 (v : Value) (m : Bool) (l : List Pl) (key : ByteArray) (k : Int) (w : World) (h : RL w v l) (hl : l.length ≤ 1000000) (hs : rs key l = true) (c0 c1 : Int) (h0 h1 r : Bool) (hk : ri key l < l.length) (he : l[ri key l] = (key, ⟨c0, c1, h0, h1, r, true⟩)) : Calls Try.prog 34 #[.agg #[v, .bool m], .string key, .int .i64 k] w fun x w' => ∃ v', x = .returned (.agg #[v', .bool m]) ∧ RL w' v' (l.take (ri key l) ++ (key, ⟨c0, k, h0, true, true, true⟩) :: l.drop (ri key l + 1)) ∧ Below w.heap.size w w' := by
  obtain ⟨g, off, cap, rfl, -, -, -⟩ := h.1.lits (by omega) (by omega)
  have A2 := hid (show Calls Try.prog 63 #[.agg #[.slice (some ⟨g, off, none⟩) l.length cap, .bool m], .string key] (rpW w (.slice (some ⟨g, off, none⟩) l.length cap) m) fun x w' => x = .returned (.tuple #[.int .i64 (ri key l), .bool true]) ∧ Below (rpW w (.slice (some ⟨g, off, none⟩) l.length cap) m).heap.size (rpW w (.slice (some ⟨g, off, none⟩) l.length cap) m) w' from (rat_any _ m l key _ (h.below (rpW_below _ _ _)).1 hl).mono (by
    rintro x w' ⟨rfl, hb⟩
    exact ⟨by rw [hs], hb⟩))
  obtain ⟨y0, y1⟩ := cells2 (rpW_s w (.slice (some ⟨g, off, none⟩) l.length cap) m)
  have C2 := hid (show ∀ w1, Below w.heap.size w w1 → ∀ o, (w1.alloc o).cell? ⟨g, off + ri key l * 7 + 1, none⟩ = some (.int .i64 c0) ∧ (w1.alloc o).cell? ⟨g, off + ri key l * 7 + 2, none⟩ = some (.int .i64 c1) ∧ (w1.alloc o).cell? ⟨g, off + ri key l * 7 + 3, none⟩ = some (.bool h0) ∧ (w1.alloc o).cell? ⟨g, off + ri key l * 7 + 4, none⟩ = some (.bool h1) ∧ (w1.alloc o).cell? ⟨g, off + ri key l * 7 + 5, none⟩ = some (.int .i64 (bit r)) ∧ (w1.alloc o).cell? ⟨g, off + ri key l * 7 + 6, none⟩ = some (.int .i64 (bit true)) from fun w1 hb o => by
    have R : Rl (w1.alloc o) _ l := Rf.below (Rf.below h.1 hb) (below_new w1 o)
    simp only [Nat.add_assoc]
    exact ⟨Rl.cells R _ hk 1 _ (by omega) (by rw [he]; rfl), Rl.cells R _ hk 2 _ (by omega) (by rw [he]; rfl), Rl.cells R _ hk 3 _ (by omega) (by rw [he]; rfl), Rl.cells R _ hk 4 _ (by omega) (by rw [he]; rfl), Rl.cells R _ hk 5 _ (by omega) (by rw [he]; rfl), Rl.cells R _ hk 6 _ (by omega) (by rw [he]; rfl)⟩)
  have H := hid h
  have HL := hid hl
  have HK := hid hk
  have HC := hid (show (ri key l : Int) < l.length from by omega)
  have hc0 : (0 : Int) ≤ ri key l := by omega
  have hc1 : (ri key l : Int) < l.length := HC.out
  generalize bit r = z at C2
  simp only [bit, if_true] at C2
  clear h hs hl he
  go_enter Try.func34, Try.ntmps34
  go_wp2_with (first
    | (go_at_call 63
       refine A2.out.mono ?_
       rintro e w1 ⟨rfl, hb⟩
       have B1 := hid hb
       have S1 := hid (hp_below (rpW_s w (.slice (some ⟨g, off, none⟩) l.length cap) m) hb (by rw [rpW_size]; omega))
       have R1 := hid (hp_below (rpW_r w (.slice (some ⟨g, off, none⟩) l.length cap) m) hb (by rw [rpW_size]; omega))
       have B2 := hid ((below_on (rpW_below w (.slice (some ⟨g, off, none⟩) l.length cap) m) hb).alloc (Below.size (below_on (rpW_below w (.slice (some ⟨g, off, none⟩) l.length cap) m) hb)) (.cells #[.int .i64 c0, .int .i64 k, .bool h0, .bool true, .int .i64 1, .int .i64 1] 56))
       obtain ⟨x0, x1⟩ := cells2 (hp_alloc S1.out (.cells #[.int .i64 c0, .int .i64 k, .bool h0, .bool true, .int .i64 1, .int .i64 1] 56))
       obtain ⟨xa, -⟩ := cells2 (hp_alloc S1.out (.cells #[.int .i64 0, .int .i64 0, .bool false, .bool false, .int .i64 0, .int .i64 1] 56))
       obtain ⟨v1, v2, v3, v4, v5, v6⟩ := C2.out w1 (below_on (rpW_below _ _ _) hb) (.cells #[.int .i64 0, .int .i64 0, .bool false, .bool false, .int .i64 0, .int .i64 1] 56)
       clear hb y0 y1)
    | (go_at_call 64
       refine (rwith1_any (.slice (some ⟨g, off, none⟩) l.length cap) m l (ri key l) (key, ⟨c0, k, h0, true, true, true⟩) (w1.alloc (.cells #[.int .i64 c0, .int .i64 k, .bool h0, .bool true, .int .i64 1, .int .i64 1] 56)) (H.out.below B2.out) HK.out HL.out).mono ?_
       rintro e w2 ⟨u, rfl, hu, hb⟩
       obtain ⟨ao2, cap2, eu, -, -⟩ := hu.1.shape
       generalize (_ : List Pl).length = n2 at eu
       subst eu
       have U := hid hu
       have B3 := hid hb
       have R2 := hid (hp_below (hp_alloc R1.out (.cells #[.int .i64 c0, .int .i64 k, .bool h0, .bool true, .int .i64 1, .int .i64 1] 56)) hb (by have := hp_lt R1.out; simp; omega))
       have fr : ∀ j, w2.frozen? ⟨w.heap.size + 1, j, none⟩ = false := fun j => free_of_block R2.out
       obtain ⟨r0, r1⟩ := cells2 R2.out
       clear hu hb))
  refine bodyPost_ret (ret_agg34 Try.results34 rfl (set2 R2.out _ _)) rfl ?_
  exact rp_fin U.out (by rw [List.length_append, List.length_cons]; omega) R2.out (below_on B2.out B3.out) (by omega)

set_option maxRecDepth 100000 in
set_option maxHeartbeats 4000000 in
theorem rput_has0 (v : Value) (m : Bool) (l : List Pl) (key : ByteArray) (k : Int) (w : World) (h : RL w v l) (hl : l.length ≤ 1000000) (hs : rs key l = true) (c0 c1 : Int) (h0 h1 r : Bool) (hk : ri key l < l.length) (he : l[ri key l] = (key, ⟨c0, c1, h0, h1, r, false⟩)) : Calls Try.prog 34 #[.agg #[v, .bool m], .string key, .int .i64 k] w fun x w' => ∃ v', x = .returned (.agg #[v', .bool m]) ∧ RL w' v' (l.take (ri key l) ++ (key, ⟨k, c1, true, h1, false, false⟩) :: l.drop (ri key l + 1)) ∧ Below w.heap.size w w' := by
  obtain ⟨g, off, cap, rfl, -, -, -⟩ := h.1.lits (by omega) (by omega)
  have A2 := hid (show Calls Try.prog 63 #[.agg #[.slice (some ⟨g, off, none⟩) l.length cap, .bool m], .string key] (rpW w (.slice (some ⟨g, off, none⟩) l.length cap) m) fun x w' => x = .returned (.tuple #[.int .i64 (ri key l), .bool true]) ∧ Below (rpW w (.slice (some ⟨g, off, none⟩) l.length cap) m).heap.size (rpW w (.slice (some ⟨g, off, none⟩) l.length cap) m) w' from (rat_any _ m l key _ (h.below (rpW_below _ _ _)).1 hl).mono (by
    rintro x w' ⟨rfl, hb⟩
    exact ⟨by rw [hs], hb⟩))
  obtain ⟨y0, y1⟩ := cells2 (rpW_s w (.slice (some ⟨g, off, none⟩) l.length cap) m)
  have C2 := hid (show ∀ w1, Below w.heap.size w w1 → ∀ o, (w1.alloc o).cell? ⟨g, off + ri key l * 7 + 1, none⟩ = some (.int .i64 c0) ∧ (w1.alloc o).cell? ⟨g, off + ri key l * 7 + 2, none⟩ = some (.int .i64 c1) ∧ (w1.alloc o).cell? ⟨g, off + ri key l * 7 + 3, none⟩ = some (.bool h0) ∧ (w1.alloc o).cell? ⟨g, off + ri key l * 7 + 4, none⟩ = some (.bool h1) ∧ (w1.alloc o).cell? ⟨g, off + ri key l * 7 + 5, none⟩ = some (.int .i64 (bit r)) ∧ (w1.alloc o).cell? ⟨g, off + ri key l * 7 + 6, none⟩ = some (.int .i64 (bit false)) from fun w1 hb o => by
    have R : Rl (w1.alloc o) _ l := Rf.below (Rf.below h.1 hb) (below_new w1 o)
    simp only [Nat.add_assoc]
    exact ⟨Rl.cells R _ hk 1 _ (by omega) (by rw [he]; rfl), Rl.cells R _ hk 2 _ (by omega) (by rw [he]; rfl), Rl.cells R _ hk 3 _ (by omega) (by rw [he]; rfl), Rl.cells R _ hk 4 _ (by omega) (by rw [he]; rfl), Rl.cells R _ hk 5 _ (by omega) (by rw [he]; rfl), Rl.cells R _ hk 6 _ (by omega) (by rw [he]; rfl)⟩)
  have H := hid h
  have HL := hid hl
  have HK := hid hk
  have HC := hid (show (ri key l : Int) < l.length from by omega)
  have hc0 : (0 : Int) ≤ ri key l := by omega
  have hc1 : (ri key l : Int) < l.length := HC.out
  generalize bit r = z at C2
  simp only [bit, Bool.false_eq_true, if_false] at C2
  clear h hs hl he
  go_enter Try.func34, Try.ntmps34
  go_wp2_with (first
    | (go_at_call 63
       refine A2.out.mono ?_
       rintro e w1 ⟨rfl, hb⟩
       have B1 := hid hb
       have S1 := hid (hp_below (rpW_s w (.slice (some ⟨g, off, none⟩) l.length cap) m) hb (by rw [rpW_size]; omega))
       have R1 := hid (hp_below (rpW_r w (.slice (some ⟨g, off, none⟩) l.length cap) m) hb (by rw [rpW_size]; omega))
       have B2 := hid ((below_on (rpW_below w (.slice (some ⟨g, off, none⟩) l.length cap) m) hb).alloc (Below.size (below_on (rpW_below w (.slice (some ⟨g, off, none⟩) l.length cap) m) hb)) (.cells #[.int .i64 k, .int .i64 c1, .bool true, .bool h1, .int .i64 0, .int .i64 0] 56))
       obtain ⟨x0, x1⟩ := cells2 (hp_alloc S1.out (.cells #[.int .i64 k, .int .i64 c1, .bool true, .bool h1, .int .i64 0, .int .i64 0] 56))
       obtain ⟨xa, -⟩ := cells2 (hp_alloc S1.out (.cells #[.int .i64 0, .int .i64 0, .bool false, .bool false, .int .i64 0, .int .i64 1] 56))
       obtain ⟨v1, v2, v3, v4, v5, v6⟩ := C2.out w1 (below_on (rpW_below _ _ _) hb) (.cells #[.int .i64 0, .int .i64 0, .bool false, .bool false, .int .i64 0, .int .i64 1] 56)
       clear hb y0 y1)
    | (go_at_call 64
       refine (rwith1_any (.slice (some ⟨g, off, none⟩) l.length cap) m l (ri key l) (key, ⟨k, c1, true, h1, false, false⟩) (w1.alloc (.cells #[.int .i64 k, .int .i64 c1, .bool true, .bool h1, .int .i64 0, .int .i64 0] 56)) (H.out.below B2.out) HK.out HL.out).mono ?_
       rintro e w2 ⟨u, rfl, hu, hb⟩
       obtain ⟨ao2, cap2, eu, -, -⟩ := hu.1.shape
       generalize (_ : List Pl).length = n2 at eu
       subst eu
       have U := hid hu
       have B3 := hid hb
       have R2 := hid (hp_below (hp_alloc R1.out (.cells #[.int .i64 k, .int .i64 c1, .bool true, .bool h1, .int .i64 0, .int .i64 0] 56)) hb (by have := hp_lt R1.out; simp; omega))
       have fr : ∀ j, w2.frozen? ⟨w.heap.size + 1, j, none⟩ = false := fun j => free_of_block R2.out
       obtain ⟨r0, r1⟩ := cells2 R2.out
       clear hu hb))
  refine bodyPost_ret (ret_agg34 Try.results34 rfl (set2 R2.out _ _)) rfl ?_
  exact rp_fin U.out (by rw [List.length_append, List.length_cons]; omega) R2.out (below_on B2.out B3.out) (by omega)

/-- What Put makes of the document's list. -/
def rputL (key : ByteArray) (k : Int) (l : List Pl) : List Pl := match l[ri key l]? with
  | some e => if rs key l = true then l.take (ri key l) ++ (key, e.2.lay k true) :: l.drop (ri key l + 1) else l.take (ri key l) ++ (key, ⟨0, k, false, true, true, true⟩) :: l.drop (ri key l)
  | none => l.take (ri key l) ++ (key, ⟨0, k, false, true, true, true⟩) :: l.drop (ri key l)

theorem rput_any (v : Value) (m : Bool) (l : List Pl) (key : ByteArray) (k : Int) (w : World) (h : RL w v l) (hl : l.length ≤ 1000000) : Calls Try.prog 34 #[.agg #[v, .bool m], .string key, .int .i64 k] w fun x w' => ∃ v', x = .returned (.agg #[v', .bool m]) ∧ RL w' v' (rputL key k l) ∧ Below w.heap.size w w' := by
  cases hs : rs key l
  · have e : rputL key k l = l.take (ri key l) ++ (key, ⟨0, k, false, true, true, true⟩) :: l.drop (ri key l) := by
      unfold rputL
      cases l[ri key l]? with
      | none => rfl
      | some e => simp [hs]
    rw [e]
    exact rput_new v m l key k w h hl hs
  · obtain ⟨hk, he⟩ : ∃ hk : ri key l < l.length, l[ri key l].1 = key := by
      have hs2 := hs
      unfold rs at hs2
      rcases Nat.lt_or_ge (ri key l) l.length with h1 | h1
      · rw [List.getElem?_eq_getElem h1] at hs2
        exact ⟨h1, by simpa using hs2⟩
      · rw [List.getElem?_eq_none h1] at hs2; cases hs2
    obtain ⟨c0, c1, h0, h1, r, wb, hE⟩ : ∃ c0 c1 h0 h1 r wb, l[ri key l] = (key, (⟨c0, c1, h0, h1, r, wb⟩ : Sd)) := ⟨l[ri key l].2.c0, l[ri key l].2.c1, l[ri key l].2.h0, l[ri key l].2.h1, l[ri key l].2.r, l[ri key l].2.w, Prod.ext he rfl⟩
    have e : rputL key k l = l.take (ri key l) ++ (key, (⟨c0, c1, h0, h1, r, wb⟩ : Sd).lay k true) :: l.drop (ri key l + 1) := by
      unfold rputL
      rw [List.getElem?_eq_getElem hk, hE]
      simp [hs]
    rw [e]
    cases wb
    · exact rput_has0 v m l key k w h hl hs c0 c1 h0 h1 r hk hE
    · exact rput_has1 v m l key k w h hl hs c0 c1 h0 h1 r hk hE

end Go.Proofs.Ythjggbcppgbdoaa
