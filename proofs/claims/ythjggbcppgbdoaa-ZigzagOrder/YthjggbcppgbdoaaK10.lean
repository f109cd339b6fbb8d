import Derived.Test.YthjggbcppgbdoaaK09
namespace Go.Proofs.Ythjggbcppgbdoaa
open Go.RowKit

/-- A list under way, none where it is empty. -/
structure Ki (W w1 : World) (u : Value) (n : Nat) (xs : List Pl) : Prop where
  ow : w1.ownsRow W.heap.size 84 7 u n (xs.flatMap plC)
  bl : Below W.heap.size W w1
  len : n = xs.length
  nil : n = 0 → u = .slice none 0 0

theorem Ki.on {W w1 w2 : World} {u : Value} {n : Nat} {xs : List Pl} (h : Ki W w1 u n xs) (hb : Below w1.heap.size w1 w2) : Ki W w2 u n xs :=
  ⟨ownsRow_kept h.ow (Kept.ofBelow hb) (fun _ _ h => h), below_on h.bl hb, h.len, h.nil⟩

theorem Ki.step {W w1 w2 : World} {u u2 : Value} {n n2 : Nat} {xs : List Pl} {e : Pl} (h : Ki W w1 u n xs) (ho : w2.ownsRow W.heap.size 84 7 u2 n2 (xs.flatMap plC ++ plC e)) (hn : n2 = n + 1) (hg : w1.grownBy w2 u.ownBlock) : Ki W w2 u2 n2 (xs ++ [e]) := by
  have hs := h.bl.size
  have K : Kept (fun j => u.ownBlock = some j) w1 w2 := (Kept.refl (fun j => u.ownBlock = some j) w1).grown hg (fun _ _ e => e)
  refine ⟨by simpa using ho, h.bl.trans (K.below hs (fun k hk e => by have := (h.ow.lt k e).1; omega)), by simp [hn, h.len], fun h0 => by omega⟩

theorem Ki.fin {w w3 : World} {v u : Value} {m : Bool} {n : Nat} {xs : List Pl} (h : Ki (rpW w v m) w3 u n xs) :
    ∃ v', Ending.returned (.agg #[u, .bool m]) = .returned (.agg #[v', .bool m]) ∧ RL (((w3.setCell ⟨w.heap.size, 0, none⟩ u).setCell ⟨w.heap.size + 1, 0, none⟩ u).setCell ⟨w.heap.size + 1, 1, none⟩ (.bool m)) v' xs ∧ Below w.heap.size w (((w3.setCell ⟨w.heap.size, 0, none⟩ u).setCell ⟨w.heap.size + 1, 0, none⟩ u).setCell ⟨w.heap.size + 1, 1, none⟩ (.bool m)) := by
  have hz := rpW_size w v m
  have K : Kept (fun k => k = w.heap.size ∨ k = w.heap.size + 1) w3 (((w3.setCell ⟨w.heap.size, 0, none⟩ u).setCell ⟨w.heap.size + 1, 0, none⟩ u).setCell ⟨w.heap.size + 1, 1, none⟩ (.bool m)) :=
    (((Kept.refl (fun k => k = w.heap.size ∨ k = w.heap.size + 1) w3).setCell (p := ⟨w.heap.size, 0, none⟩) (fun _ => .inl rfl) _).setCell (p := ⟨w.heap.size + 1, 0, none⟩) (fun _ => .inr rfl) _).setCell (p := ⟨w.heap.size + 1, 1, none⟩) (fun _ => .inr rfl) _
  have ho := ownsRow_kept h.ow K (fun k hk e => by have := (h.ow.lt k hk).1; omega)
  have hB := below_on (rpW_below w v m) h.bl
  refine ⟨u, rfl, ⟨?_, fun h0 => h.nil (by rw [h.len, h0]; rfl)⟩, hB.trans (K.below hB.size (fun k hk e => by omega))⟩
  show Rf _ 7 u xs.length _
  rw [← h.len]
  exact rf_of_owns ho (pl_flat_one _)

theorem Ki.shape {W w1 : World} {u : Value} {n : Nat} {xs : List Pl} (h : Ki W w1 u n xs) : ∃ ao cap, u = .slice ao n cap := by
  obtain ⟨ao, cap, e, -, -⟩ := (rf_of_owns h.ow (pl_flat_one _)).shape
  exact ⟨ao, cap, e⟩

abbrev keepP (e : Pl) : Bool := e.2.has e.2.r

set_option maxRecDepth 100000 in
set_option maxHeartbeats 8000000 in
theorem rkept_any (v : Value) (m : Bool) (l : List Pl) (w : World) (h : RL w v l) (hl : l.length ≤ 1000000) : Calls Try.prog 66 #[.agg #[v, .bool m]] w fun x w' => ∃ v', x = .returned (.agg #[v', .bool m]) ∧ RL w' v' (l.filter keepP) ∧ Below w.heap.size w w' := by
  obtain ⟨ao, cap, e, -, -⟩ := h.1.shape
  subst e
  have HR := hid h
  have FN := hid (show ∀ w3 u n, Ki (rpW w (.slice ao l.length cap) m) w3 u n (l.filter keepP) → _ from fun w3 u n h => Ki.fin h)
  generalize hP : (fun (x : Ending) (w' : World) => ∃ v', x = .returned (.agg #[v', .bool m]) ∧ RL w' v' (l.filter keepP) ∧ Below w.heap.size w w') = PP
  have FN2 := hid (show ∀ w3 u n, Ki (rpW w (.slice ao l.length cap) m) w3 u n (l.filter keepP) → PP (.returned (.agg #[u, .bool m])) (((w3.setCell ⟨w.heap.size, 0, none⟩ u).setCell ⟨w.heap.size + 1, 0, none⟩ u).setCell ⟨w.heap.size + 1, 1, none⟩ (.bool m)) from fun w3 u n h => by rw [← hP]; exact Ki.fin h)
  clear h hP FN
  go_enter Try.func66, Try.ntmps66
  go_wp2
  go_loopw [3, 4] (fun u i wr => ∃ k n : Nat, i = .int .i64 k ∧ k ≤ l.length ∧ Hid (Ki (rpW w (.slice ao l.length cap) m) wr u n ((l.take k).filter keepP))) (fun _ i _ => l.length - (intOf i).toNat)
  case atStart => exact ⟨0, 0, rfl, Nat.zero_le _, hid ⟨World.ownsRow_nil _ _ _ _, Below.refl _ _, rfl, fun _ => rfl⟩⟩
  case round =>
    obtain ⟨k, n, rfl, hk, HK⟩ := hrel
    obtain ⟨ao2, cap2, eu⟩ := HK.out.shape
    subst eu
    have hz := rpW_size w (.slice ao l.length cap) m
    have S1 := hid (hp_below (rpW_s w (.slice ao l.length cap) m) HK.out.bl (by omega))
    obtain ⟨y0, y1⟩ := cells2 S1.out
    by_cases h1 : k < l.length
    · obtain ⟨g, off, cap', e, -, -, -⟩ := HR.out.1.lits (by omega) (by omega)
      injection e with e1 _ e3
      subst e1 e3
      obtain ⟨e0, he⟩ : ∃ e, l[k] = e := ⟨_, rfl⟩
      have C2 := hid (show ∀ w1, Below w.heap.size w w1 → w1.cell? ⟨g, off + k * 7, none⟩ = some (.string e0.1) ∧ w1.cell? ⟨g, off + k * 7 + 1, none⟩ = some (.int .i64 e0.2.c0) ∧ w1.cell? ⟨g, off + k * 7 + 2, none⟩ = some (.int .i64 e0.2.c1) ∧ w1.cell? ⟨g, off + k * 7 + 3, none⟩ = some (.bool e0.2.h0) ∧ w1.cell? ⟨g, off + k * 7 + 4, none⟩ = some (.bool e0.2.h1) ∧ w1.cell? ⟨g, off + k * 7 + 5, none⟩ = some (.int .i64 (bit e0.2.r)) ∧ w1.cell? ⟨g, off + k * 7 + 6, none⟩ = some (.int .i64 (bit e0.2.w)) from fun w1 hb => by
        have R : Rl w1 _ l := Rf.below HR.out.1 hb
        simp only [Nat.add_assoc]
        exact ⟨Rl.cells R k h1 0 _ (by omega) (by rw [he]; rfl), Rl.cells R k h1 1 _ (by omega) (by rw [he]; rfl), Rl.cells R k h1 2 _ (by omega) (by rw [he]; rfl), Rl.cells R k h1 3 _ (by omega) (by rw [he]; rfl), Rl.cells R k h1 4 _ (by omega) (by rw [he]; rfl), Rl.cells R k h1 5 _ (by omega) (by rw [he]; rfl), Rl.cells R k h1 6 _ (by omega) (by rw [he]; rfl)⟩)
      obtain ⟨v0, v1, v2, v3, v4, v5, v6⟩ := C2.out wr (below_on (rpW_below _ _ _) HK.out.bl)
      have RH := hid (show ∀ w1, Calls Try.prog 65 #[.agg #[.int .i64 e0.2.c0, .int .i64 e0.2.c1, .bool e0.2.h0, .bool e0.2.h1, .int .i64 (bit e0.2.r), .int .i64 (bit e0.2.w)]] w1 fun x w' => x = .returned (.bool (e0.2.has e0.2.r)) ∧ Below w1.heap.size w1 w' from fun w1 => rhas_any e0.2 w1)
      have hT : l.take (k + 1) = l.take k ++ [e0] := by rw [List.take_add_one, List.getElem?_eq_getElem h1, he]; rfl
      have HN := hid (show n ≤ 1000000 from by
        have h2 := HK.out.len
        have h3 : ((l.take k).filter keepP).length ≤ (l.take k).length := List.length_filter_le _ _
        have h4 : (l.take k).length ≤ l.length := List.length_take_le' _ _
        omega)
      cases hh : e0.2.has e0.2.r
      · have T2 := hid (show (l.take (k + 1)).filter keepP = (l.take k).filter keepP from by rw [hT, List.filter_append]; simp [keepP, hh])
        rw [hh] at RH
        clear hh hT he
        go_wp2_with (
          go_at_call 65
          refine (RH.out wr).mono ?_
          rintro e w2 ⟨rfl, hb2⟩
          have K2 := hid (HK.out.on hb2)
          clear hb2)
        go_roundw
        case rel => exact ⟨k + 1, n, by go_num, by omega, hid (by rw [T2.out]; exact K2.out)⟩
        case measure => simp [intOf]; omega
      · have T2 := hid (show (l.take (k + 1)).filter keepP = (l.take k).filter keepP ++ [e0] from by rw [hT, List.filter_append]; simp [keepP, hh])
        rw [hh] at RH
        clear hh hT he
        go_wp2_with (first
          | (go_at_call 65
             refine (RH.out wr).mono ?_
             rintro e w2 ⟨rfl, hb2⟩
             have K2 := hid (HK.out.on hb2)
             obtain ⟨x0, x1, x2, x3, x4, x5, x6⟩ := C2.out w2 (below_on (rpW_below _ _ _) K2.out.bl)
             have u0 := (cells2 (hp_below S1.out hb2 (hp_lt S1.out))).1
             clear hb2)
          | (at_builtin
             refine wpList_append_rf (w2.alloc (.cells (plA e0) 84)) rfl (.tmp 19) (.tmp 25) 32 84 _ 7 56 rfl Try.underlying32 Try.info84 rfl (by omega) (rpW w (.slice (some ⟨g, off, none⟩) l.length cap) m).heap.size _ _ _ rfl (K2.out.on (below_new _ _)).ow (.slice (some ⟨w2.heap.size, 0, none⟩) 1 1) 1 (plC e0) rfl (rf_pl w2 e0) (by have := HN.out; omega) (by have := HN.out; unfold maxLen; omega) (K2.out.on (below_new _ _)).bl.size ?_
             intro a2 q2 w3 ho2 hg2 hat2
             have K3 := hid ((K2.out.on (below_new _ _)).step ho2.out rfl hg2.out)
             clear ho2 hg2 hat2))
        go_roundw
        case rel => exact ⟨k + 1, _, by go_num, by omega, hid (by rw [T2.out]; exact K3.out)⟩
        case measure => simp [intOf]; omega
    · have hk1 : k = l.length := by omega
      have N2 := hid (show Ki (rpW w (.slice ao l.length cap) m) wr (.slice ao2 n cap2) n (l.filter keepP) from by have := HK.out; rw [hk1, List.take_length] at this; exact this)
      have h1' : ¬ (k : Int) < l.length := by omega
      have R2 := hid (hp_below (rpW_r w (.slice ao l.length cap) m) HK.out.bl (by omega))
      obtain ⟨r0, r1⟩ := cells2 R2.out
      have ff : ∀ j, wr.frozen? ⟨w.heap.size, j, none⟩ = false := fun j => free_of_block S1.out
      have fr : ∀ j, wr.frozen? ⟨w.heap.size + 1, j, none⟩ = false := fun j => free_of_block R2.out
      go_wp2
      refine bodyPost_ret (ret_agg34 Try.results66 rfl (set2 (hp_set R2.out (by show w.heap.size + 1 ≠ w.heap.size; omega) _) _ _)) rfl ?_
      exact FN2.out _ _ _ N2.out

end Go.Proofs.Ythjggbcppgbdoaa

namespace Go.Proofs.Ythjggbcppgbdoaa
open Go.RowKit

theorem ret_agg34i {fn : Func} {p q : Tmp} (h : fn.results = #[.cell p 34, .tmp q]) {tmps : Array Value} {r : Nat} {w : World} {a b x : Value} (ht : tmps.getD p undef = .pointer (some ⟨r, 0, none⟩)) (hq : tmps.getD q undef = x) (hb : w.heap[r]? = some (.cells #[a, b] 34 (0, 0))) :
    (results fn tmps).run Try.prog w = .ok (.tuple #[.agg #[a, b], x]) w := by
  have ht2 := ht
  have hq2 := hq
  simp only [Array.getD_eq_getD_getElem?] at ht2 hq2
  simp only [results, h]
  simp [ht2, hq2, load_agg34 hb, asAddr]

set_option maxRecDepth 100000 in
theorem field34 (ao : Option Addr) (n c : Nat) (m : Bool) (w : World) : (Instr.field 34 (.agg #[.slice ao n c, .bool m]) 0).run Try.prog w = .ok (.slice ao n c) w := by
  simp [Instr.field, go_sem, part, asAgg]

set_option maxRecDepth 100000 in
set_option maxHeartbeats 4000000 in
theorem rlen_any (v : Value) (m : Bool) (l : List Pl) (w : World) (h : RL w v l) (hl : l.length ≤ 1000000) : Calls Try.prog 43 #[.agg #[v, .bool m]] w fun x w' => x = .returned (.int .i64 (l.filter keepP).length) ∧ Below w.heap.size w w' := by
  obtain ⟨ao, cap, e, -, -⟩ := h.1.shape
  subst e
  have KP := hid (rkept_any _ m l (w.alloc (.cells #[.slice ao l.length cap, .bool m] 34)) (h.below (below_new _ _)) hl)
  have B0 := hid (below_new w (.cells #[.slice ao l.length cap, .bool m] 34))
  clear h hl
  generalize (l.filter keepP) = l2 at KP ⊢
  go_enter Try.func43, Try.ntmps43
  go_wp2_with (
    go_at_call 66
    refine KP.out.mono ?_
    rintro e w2 ⟨u, rfl, hu, hb⟩
    obtain ⟨ao2, cap2, eu, -, -⟩ := hu.1.shape
    subst eu
    have B1 := hid (below_on B0.out hb)
    have F1 := field34 ao2 l2.length cap2 m w2
    clear hb hu)
  go_ret
  exact ⟨rfl, B1.out⟩

set_option maxRecDepth 100000 in
set_option maxHeartbeats 4000000 in
theorem rdone_idle (v : Value) (l : List Pl) (w : World) (h : RL w v l) : Calls Try.prog 37 #[.agg #[v, .bool false]] w fun x w' => x = .returned (.tuple #[.agg #[v, .bool false], .int .i64 19]) ∧ Below w.heap.size w w' := by
  obtain ⟨ao, cap, e, -, -⟩ := h.1.shape
  subst e
  clear h
  go_enter Try.func37, Try.ntmps37
  go_wp2
  refine bodyPost_ret (ret_agg34i Try.results37 rfl rfl (by have := hp_new (w.alloc (.cells #[.slice ao l.length cap, .bool false] 34)) (.cells #[.slice ao l.length cap, .bool false] 34); simpa using this)) rfl ?_
  exact ⟨rfl, (below_new _ _).alloc (by simp) _⟩

/-- As rp_fin, of a list that may be empty. -/
theorem rp_set {w w2 : World} {u : Value} {m : Bool} {l : List Pl} {b : Nat} {o : Option Addr} {n c : Nat} {q : Bool} (h : RL w2 u l) (hb : w2.heap[b]? = some (.cells #[.slice o n c, .bool q] 34 (0, 0))) (hB : Below w.heap.size w w2) (hn : w.heap.size ≤ b) :
    RL ((w2.setCell ⟨b, 0, none⟩ u).setCell ⟨b, 1, none⟩ (.bool m)) u l ∧ Below w.heap.size w ((w2.setCell ⟨b, 0, none⟩ u).setCell ⟨b, 1, none⟩ (.bool m)) := by
  have K : Kept (fun k => k = b) w2 ((w2.setCell ⟨b, 0, none⟩ u).setCell ⟨b, 1, none⟩ (.bool m)) := ((Kept.refl (fun k => k = b) w2).setCell (p := ⟨b, 0, none⟩) (fun _ => rfl) u).setCell (p := ⟨b, 1, none⟩) (fun _ => rfl) (.bool m)
  refine ⟨⟨h.1.kept K ?_, h.2⟩, hB.trans (K.below hB.size (fun k hk e => by omega))⟩
  rcases Nat.eq_zero_or_pos l.length with h0 | h0
  · rw [h.2 (List.eq_nil_of_length_eq_zero h0)]
    intro k hk
    simp [Value.ownBlock] at hk
  · exact rl_off h.1 h0 hb

set_option maxRecDepth 100000 in
set_option maxHeartbeats 4000000 in
theorem rdone_busy (v : Value) (l : List Pl) (w : World) (h : RL w v l) (hl : l.length ≤ 1000000) : Calls Try.prog 37 #[.agg #[v, .bool true]] w fun x w' => ∃ v', x = .returned (.tuple #[.agg #[v', .bool false], .int .i64 0]) ∧ RL w' v' (l.filter keepP) ∧ Below w.heap.size w w' := by
  obtain ⟨ao, cap, e, -, -⟩ := h.1.shape
  subst e
  have KP := hid (rkept_any _ false l (rpW w (.slice ao l.length cap) false) (h.below (rpW_below _ _ _)) hl)
  have R1 := hid (rpW_r w (.slice ao l.length cap) false)
  have B0 := hid (rpW_below w (.slice ao l.length cap) false)
  have Z0 := hid (rpW_size w (.slice ao l.length cap) false)
  clear h hl
  generalize (l.filter keepP) = l2 at KP ⊢
  go_enter Try.func37, Try.ntmps37
  go_wp2_with (
    go_at_call 66
    refine KP.out.mono ?_
    rintro e w2 ⟨u, rfl, hu, hb⟩
    obtain ⟨ao2, cap2, eu, -, -⟩ := hu.1.shape
    generalize (_ : List Pl).length = n2 at eu
    subst eu
    have U := hid hu
    have B1 := hid (below_on B0.out hb)
    have R2 := hid (hp_below R1.out hb (by rw [Z0.out]; omega))
    have fr : ∀ j, w2.frozen? ⟨w.heap.size + 1, j, none⟩ = false := fun j => free_of_block R2.out
    obtain ⟨r0, r1⟩ := cells2 R2.out
    clear hb hu)
  refine bodyPost_ret (ret_agg34i Try.results37 rfl rfl (set2 R2.out _ _)) rfl ?_
  obtain ⟨h1, h2⟩ := rp_set (m := false) U.out R2.out B1.out (by omega)
  exact ⟨_, rfl, h1, h2⟩

end Go.Proofs.Ythjggbcppgbdoaa

namespace Go.Proofs.Ythjggbcppgbdoaa
open Go.RowKit

set_option maxRecDepth 100000 in
theorem load_agg56 {w : World} {r : Nat} {a b c d e f : Value} (hb : w.heap[r]? = some (.cells #[a, b, c, d, e, f] 56 (0, 0))) : (loadVar 56 ⟨r, 0, none⟩).run Try.prog w = .ok (.agg #[a, b, c, d, e, f]) w := by
  obtain ⟨c0, c1, c2, c3, c4, c5⟩ := cells6 hb
  simp [go_sem, c0, c1, c2, c3, c4, c5]
theorem ret_agg56b {fn : Func} {p q : Tmp} (h : fn.results = #[.cell p 56, .tmp q]) {tmps : Array Value} {r : Nat} {w : World} {a b c d e f x : Value} (ht : tmps.getD p undef = .pointer (some ⟨r, 0, none⟩)) (hq : tmps.getD q undef = x) (hb : w.heap[r]? = some (.cells #[a, b, c, d, e, f] 56 (0, 0))) :
    (results fn tmps).run Try.prog w = .ok (.tuple #[.agg #[a, b, c, d, e, f], x]) w := by
  have ht2 := ht
  have hq2 := hq
  simp only [Array.getD_eq_getD_getElem?] at ht2 hq2
  simp only [results, h]
  simp [ht2, hq2, load_agg56 hb, asAddr]

theorem set6 {w : World} {r : Nat} {a b c d e f : Value} {t : TypeId} (h : w.heap[r]? = some (.cells #[a, b, c, d, e, f] t (0, 0))) (x1 x2 x3 x4 x5 x6 : Value) :
    ((((((w.setCell ⟨r, 0, none⟩ x1).setCell ⟨r, 1, none⟩ x2).setCell ⟨r, 2, none⟩ x3).setCell ⟨r, 3, none⟩ x4).setCell ⟨r, 4, none⟩ x5).setCell ⟨r, 5, none⟩ x6).heap[r]? = some (.cells #[x1, x2, x3, x4, x5, x6] t (0, 0)) := by
  simp [World.setCell, Array.getElem?_modify, h]

abbrev slW (w : World) (v : Value) (m : Bool) : World := (w.alloc (.cells #[v, .bool m] 34)).alloc (.cells #[.int .i64 0, .int .i64 0, .bool false, .bool false, .int .i64 0, .int .i64 0] 56)
theorem slW_below (w : World) (v : Value) (m : Bool) : Below w.heap.size w (slW w v m) := (below_new _ _).alloc (by simp) _
theorem slW_size (w : World) (v : Value) (m : Bool) : (slW w v m).heap.size = w.heap.size + 2 := by simp [slW]
theorem slW_s (w : World) (v : Value) (m : Bool) : (slW w v m).heap[w.heap.size]? = some (.cells #[v, .bool m] 34 (0, 0)) := hp_alloc (hp_new _ _) _
theorem slW_r (w : World) (v : Value) (m : Bool) : (slW w v m).heap[w.heap.size + 1]? = some (.cells #[.int .i64 0, .int .i64 0, .bool false, .bool false, .int .i64 0, .int .i64 0] 56 (0, 0)) := by
  have := hp_new (w.alloc (.cells #[v, .bool m] 34)) (.cells #[.int .i64 0, .int .i64 0, .bool false, .bool false, .int .i64 0, .int .i64 0] 56)
  simpa using this

theorem sl_set {w w2 : World} {b : Nat} (hB : Below w.heap.size w w2) (hn : w.heap.size ≤ b) (x1 x2 x3 x4 x5 x6 : Value) : Below w.heap.size w ((((((w2.setCell ⟨b, 0, none⟩ x1).setCell ⟨b, 1, none⟩ x2).setCell ⟨b, 2, none⟩ x3).setCell ⟨b, 3, none⟩ x4).setCell ⟨b, 4, none⟩ x5).setCell ⟨b, 5, none⟩ x6) := by
  have K := ((((((Kept.refl (fun k => k = b) w2).setCell (p := ⟨b, 0, none⟩) (fun _ => rfl) x1).setCell (p := ⟨b, 1, none⟩) (fun _ => rfl) x2).setCell (p := ⟨b, 2, none⟩) (fun _ => rfl) x3).setCell (p := ⟨b, 3, none⟩) (fun _ => rfl) x4).setCell (p := ⟨b, 4, none⟩) (fun _ => rfl) x5).setCell (p := ⟨b, 5, none⟩) (fun _ => rfl) x6
  exact hB.trans (K.below hB.size (fun k hk e => by omega))

set_option maxRecDepth 100000 in
set_option maxHeartbeats 4000000 in
theorem rslot_no (v : Value) (m : Bool) (l : List Pl) (key : ByteArray) (w : World) (h : RL w v l) (hl : l.length ≤ 1000000) (hs : rs key l = false) : Calls Try.prog 42 #[.agg #[v, .bool m], .string key] w fun x w' => x = .returned (.tuple #[.agg #[.int .i64 0, .int .i64 0, .bool false, .bool false, .int .i64 0, .int .i64 0], .bool false]) ∧ Below w.heap.size w w' := by
  obtain ⟨ao, cap, e, -, -⟩ := h.1.shape
  subst e
  have A2 := hid (show Calls Try.prog 63 #[.agg #[.slice ao l.length cap, .bool m], .string key] (slW w (.slice ao l.length cap) m) fun x w' => x = .returned (.tuple #[.int .i64 (ri key l), .bool false]) ∧ Below (slW w (.slice ao l.length cap) m).heap.size (slW w (.slice ao l.length cap) m) w' from (rat_any _ m l key _ (h.below (slW_below _ _ _)).1 hl).mono (by
    rintro x w' ⟨rfl, hb⟩
    exact ⟨by rw [hs], hb⟩))
  clear h hl hs
  go_enter Try.func42, Try.ntmps42
  go_wp2_with (
    go_at_call 63
    refine A2.out.mono ?_
    rintro e w1 ⟨rfl, hb⟩
    have B1 := hid (below_on (slW_below _ _ _) hb)
    have R1 := hid (hp_below (slW_r w (.slice ao l.length cap) m) hb (by rw [slW_size]; omega))
    have fr : ∀ j, w1.frozen? ⟨w.heap.size + 1, j, none⟩ = false := fun j => free_of_block R1.out
    obtain ⟨r0, r1, r2, r3, r4, r5⟩ := cells6 R1.out
    clear hb)
  refine bodyPost_ret (ret_agg56b Try.results42 rfl rfl (set6 R1.out _ _ _ _ _ _)) rfl ?_
  exact ⟨rfl, sl_set B1.out (by omega) _ _ _ _ _ _⟩

set_option maxRecDepth 100000 in
set_option maxHeartbeats 4000000 in
theorem rslot_has (v : Value) (m : Bool) (l : List Pl) (key : ByteArray) (w : World) (h : RL w v l) (hl : l.length ≤ 1000000) (hs : rs key l = true) (s : Sd) (hk : ri key l < l.length) (he : l[ri key l] = (key, s)) : Calls Try.prog 42 #[.agg #[v, .bool m], .string key] w fun x w' => x = .returned (.tuple #[s.agg, .bool true]) ∧ Below w.heap.size w w' := by
  obtain ⟨g, off, cap, rfl, -, -, -⟩ := h.1.lits (by omega) (by omega)
  have A2 := hid (show Calls Try.prog 63 #[.agg #[.slice (some ⟨g, off, none⟩) l.length cap, .bool m], .string key] (slW w (.slice (some ⟨g, off, none⟩) l.length cap) m) fun x w' => x = .returned (.tuple #[.int .i64 (ri key l), .bool true]) ∧ Below (slW w (.slice (some ⟨g, off, none⟩) l.length cap) m).heap.size (slW w (.slice (some ⟨g, off, none⟩) l.length cap) m) w' from (rat_any _ m l key _ (h.below (slW_below _ _ _)).1 hl).mono (by
    rintro x w' ⟨rfl, hb⟩
    exact ⟨by rw [hs], hb⟩))
  have C2 := hid (show ∀ w1, Below w.heap.size w w1 → w1.cell? ⟨g, off + ri key l * 7 + 1, none⟩ = some (.int .i64 s.c0) ∧ w1.cell? ⟨g, off + ri key l * 7 + 2, none⟩ = some (.int .i64 s.c1) ∧ w1.cell? ⟨g, off + ri key l * 7 + 3, none⟩ = some (.bool s.h0) ∧ w1.cell? ⟨g, off + ri key l * 7 + 4, none⟩ = some (.bool s.h1) ∧ w1.cell? ⟨g, off + ri key l * 7 + 5, none⟩ = some (.int .i64 (bit s.r)) ∧ w1.cell? ⟨g, off + ri key l * 7 + 6, none⟩ = some (.int .i64 (bit s.w)) from fun w1 hb => by
    have R : Rl w1 _ l := Rf.below h.1 hb
    simp only [Nat.add_assoc]
    exact ⟨Rl.cells R _ hk 1 _ (by omega) (by rw [he]; rfl), Rl.cells R _ hk 2 _ (by omega) (by rw [he]; rfl), Rl.cells R _ hk 3 _ (by omega) (by rw [he]; rfl), Rl.cells R _ hk 4 _ (by omega) (by rw [he]; rfl), Rl.cells R _ hk 5 _ (by omega) (by rw [he]; rfl), Rl.cells R _ hk 6 _ (by omega) (by rw [he]; rfl)⟩)
  have hc0 : (0 : Int) ≤ ri key l := by omega
  have hc1 : (ri key l : Int) < l.length := by omega
  clear h hl hs he
  unfold Sd.agg
  generalize bit s.r = zr at C2 ⊢
  generalize bit s.w = zw at C2 ⊢
  generalize s.c0 = c0 at C2 ⊢
  generalize s.c1 = c1 at C2 ⊢
  generalize s.h0 = h0 at C2 ⊢
  generalize s.h1 = h1 at C2 ⊢
  go_enter Try.func42, Try.ntmps42
  go_wp2_with (
    go_at_call 63
    refine A2.out.mono ?_
    rintro e w1 ⟨rfl, hb⟩
    have B1 := hid (below_on (slW_below _ _ _) hb)
    have R1 := hid (hp_below (slW_r w (.slice (some ⟨g, off, none⟩) l.length cap) m) hb (by rw [slW_size]; omega))
    have S1 := hid (hp_below (slW_s w (.slice (some ⟨g, off, none⟩) l.length cap) m) hb (by rw [slW_size]; omega))
    obtain ⟨x0, x1⟩ := cells2 S1.out
    obtain ⟨v1, v2, v3, v4, v5, v6⟩ := C2.out w1 B1.out
    have fr : ∀ j, w1.frozen? ⟨w.heap.size + 1, j, none⟩ = false := fun j => free_of_block R1.out
    obtain ⟨r0, r1, r2, r3, r4, r5⟩ := cells6 R1.out
    clear hb)
  refine bodyPost_ret (ret_agg56b Try.results42 rfl rfl (set6 R1.out _ _ _ _ _ _)) rfl ?_
  exact ⟨rfl, sl_set B1.out (by omega) _ _ _ _ _ _⟩

end Go.Proofs.Ythjggbcppgbdoaa

namespace Go.Proofs.Ythjggbcppgbdoaa
open Go.RowKit

theorem rp_keep {w w2 : World} {m : Bool} {b : Nat} (hB : Below w.heap.size w w2) (hn : w.heap.size ≤ b) (u : Value) : Below w.heap.size w ((w2.setCell ⟨b, 0, none⟩ u).setCell ⟨b, 1, none⟩ (.bool m)) := by
  have K := ((Kept.refl (fun k => k = b) w2).setCell (p := ⟨b, 0, none⟩) (fun _ => rfl) u).setCell (p := ⟨b, 1, none⟩) (fun _ => rfl) (.bool m)
  exact hB.trans (K.below hB.size (fun k hk e => by omega))

set_option maxRecDepth 100000 in
set_option maxHeartbeats 4000000 in
theorem rdel_no (v : Value) (m : Bool) (l : List Pl) (key : ByteArray) (w : World) (h : RL w v l) (hl : l.length ≤ 1000000) (hs : rs key l = false) : Calls Try.prog 35 #[.agg #[v, .bool m], .string key] w fun x w' => x = .returned (.agg #[v, .bool m]) ∧ Below w.heap.size w w' := by
  obtain ⟨ao, cap, e, -, -⟩ := h.1.shape
  subst e
  have A2 := hid (show Calls Try.prog 63 #[.agg #[.slice ao l.length cap, .bool m], .string key] (rpW w (.slice ao l.length cap) m) fun x w' => x = .returned (.tuple #[.int .i64 (ri key l), .bool false]) ∧ Below (rpW w (.slice ao l.length cap) m).heap.size (rpW w (.slice ao l.length cap) m) w' from (rat_any _ m l key _ (h.below (rpW_below _ _ _)).1 hl).mono (by
    rintro x w' ⟨rfl, hb⟩
    exact ⟨by rw [hs], hb⟩))
  obtain ⟨y0, y1⟩ := cells2 (rpW_s w (.slice ao l.length cap) m)
  clear h hl hs
  go_enter Try.func35, Try.ntmps35
  go_wp2_with (
    go_at_call 63
    refine A2.out.mono ?_
    rintro e w1 ⟨rfl, hb⟩
    have B1 := hid (below_on (rpW_below w (.slice ao l.length cap) m) hb)
    have S1 := hid (hp_below (rpW_s w (.slice ao l.length cap) m) hb (by rw [rpW_size]; omega))
    have R1 := hid (hp_below (rpW_r w (.slice ao l.length cap) m) hb (by rw [rpW_size]; omega))
    obtain ⟨x0, x1⟩ := cells2 S1.out
    obtain ⟨r0, r1⟩ := cells2 R1.out
    have fr : ∀ j, w1.frozen? ⟨w.heap.size + 1, j, none⟩ = false := fun j => free_of_block R1.out
    clear hb y0 y1)
  refine bodyPost_ret (ret_agg34 Try.results35 rfl (set2 R1.out _ _)) rfl ?_
  exact ⟨rfl, rp_keep B1.out (by omega) _⟩

set_option maxRecDepth 100000 in
set_option maxHeartbeats 4000000 in
theorem rdel_nil (v : Value) (m : Bool) (l : List Pl) (key : ByteArray) (w : World) (h : RL w v l) (hl : l.length ≤ 1000000) (hs : rs key l = true) (s : Sd) (hk : ri key l < l.length) (he : l[ri key l] = (key, s)) (hh : s.has s.r = false) : Calls Try.prog 35 #[.agg #[v, .bool m], .string key] w fun x w' => x = .returned (.agg #[v, .bool m]) ∧ Below w.heap.size w w' := by
  obtain ⟨g, off, cap, rfl, -, -, -⟩ := h.1.lits (by omega) (by omega)
  have A2 := hid (show Calls Try.prog 63 #[.agg #[.slice (some ⟨g, off, none⟩) l.length cap, .bool m], .string key] (rpW w (.slice (some ⟨g, off, none⟩) l.length cap) m) fun x w' => x = .returned (.tuple #[.int .i64 (ri key l), .bool true]) ∧ Below (rpW w (.slice (some ⟨g, off, none⟩) l.length cap) m).heap.size (rpW w (.slice (some ⟨g, off, none⟩) l.length cap) m) w' from (rat_any _ m l key _ (h.below (rpW_below _ _ _)).1 hl).mono (by
    rintro x w' ⟨rfl, hb⟩
    exact ⟨by rw [hs], hb⟩))
  have C2 := hid (show ∀ w1, Below w.heap.size w w1 → w1.cell? ⟨g, off + ri key l * 7 + 1, none⟩ = some (.int .i64 s.c0) ∧ w1.cell? ⟨g, off + ri key l * 7 + 2, none⟩ = some (.int .i64 s.c1) ∧ w1.cell? ⟨g, off + ri key l * 7 + 3, none⟩ = some (.bool s.h0) ∧ w1.cell? ⟨g, off + ri key l * 7 + 4, none⟩ = some (.bool s.h1) ∧ w1.cell? ⟨g, off + ri key l * 7 + 5, none⟩ = some (.int .i64 (bit s.r)) ∧ w1.cell? ⟨g, off + ri key l * 7 + 6, none⟩ = some (.int .i64 (bit s.w)) from fun w1 hb => by
    have R : Rl w1 _ l := Rf.below h.1 hb
    simp only [Nat.add_assoc]
    exact ⟨Rl.cells R _ hk 1 _ (by omega) (by rw [he]; rfl), Rl.cells R _ hk 2 _ (by omega) (by rw [he]; rfl), Rl.cells R _ hk 3 _ (by omega) (by rw [he]; rfl), Rl.cells R _ hk 4 _ (by omega) (by rw [he]; rfl), Rl.cells R _ hk 5 _ (by omega) (by rw [he]; rfl), Rl.cells R _ hk 6 _ (by omega) (by rw [he]; rfl)⟩)
  have RH := hid (show ∀ w1, Calls Try.prog 65 #[s.agg] w1 fun x w' => x = .returned (.bool false) ∧ Below w1.heap.size w1 w' from fun w1 => (rhas_any s w1).mono (by rintro x w' ⟨rfl, hb⟩; exact ⟨by rw [hh], hb⟩))
  unfold Sd.agg at RH
  obtain ⟨y0, y1⟩ := cells2 (rpW_s w (.slice (some ⟨g, off, none⟩) l.length cap) m)
  have hc0 : (0 : Int) ≤ ri key l := by omega
  have hc1 : (ri key l : Int) < l.length := by omega
  clear h hl hs he hh
  generalize bit s.r = zr at C2 RH
  generalize bit s.w = zw at C2 RH
  generalize s.c0 = c0 at C2 RH
  generalize s.c1 = c1 at C2 RH
  generalize s.h0 = h0 at C2 RH
  generalize s.h1 = h1 at C2 RH
  go_enter Try.func35, Try.ntmps35
  go_wp2_with (first
    | (go_at_call 63
       refine A2.out.mono ?_
       rintro e w1 ⟨rfl, hb⟩
       have B1 := hid (below_on (rpW_below w (.slice (some ⟨g, off, none⟩) l.length cap) m) hb)
       have S1 := hid (hp_below (rpW_s w (.slice (some ⟨g, off, none⟩) l.length cap) m) hb (by rw [rpW_size]; omega))
       have R1 := hid (hp_below (rpW_r w (.slice (some ⟨g, off, none⟩) l.length cap) m) hb (by rw [rpW_size]; omega))
       obtain ⟨x0, x1⟩ := cells2 S1.out
       obtain ⟨v1, v2, v3, v4, v5, v6⟩ := C2.out w1 B1.out
       clear hb y0 y1)
    | (go_at_call 65
       refine (RH.out w1).mono ?_
       rintro e w2 ⟨rfl, hb⟩
       have B2 := hid (below_on B1.out hb)
       have R2 := hid (hp_below R1.out hb (hp_lt R1.out))
       obtain ⟨z0, z1⟩ := cells2 (hp_below S1.out hb (hp_lt S1.out))
       obtain ⟨r0, r1⟩ := cells2 R2.out
       have fr : ∀ j, w2.frozen? ⟨w.heap.size + 1, j, none⟩ = false := fun j => free_of_block R2.out
       clear hb))
  refine bodyPost_ret (ret_agg34 Try.results35 rfl (set2 R2.out _ _)) rfl ?_
  exact ⟨rfl, rp_keep B2.out (by omega) _⟩

end Go.Proofs.Ythjggbcppgbdoaa
