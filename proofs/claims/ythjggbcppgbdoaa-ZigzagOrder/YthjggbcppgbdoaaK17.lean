import Derived.Test.YthjggbcppgbdoaaK16
namespace Go.Proofs.Ythjggbcppgbdoaa
open Go.RowKit

theorem Ki.finO {w w3 : World} {v u : Value} {m : Bool} {n : Nat} {xs : List Pl} (h : Ki (rpW w v m) w3 u n xs) :
    ∃ v', Ending.returned (.agg #[u, .bool m]) = .returned (.agg #[v', .bool m]) ∧ RL (((w3.setCell ⟨w.heap.size, 0, none⟩ u).setCell ⟨w.heap.size + 1, 0, none⟩ u).setCell ⟨w.heap.size + 1, 1, none⟩ (.bool m)) v' xs ∧ World.ownsRow (((w3.setCell ⟨w.heap.size, 0, none⟩ u).setCell ⟨w.heap.size + 1, 0, none⟩ u).setCell ⟨w.heap.size + 1, 1, none⟩ (.bool m)) w.heap.size 84 7 v' xs.length (xs.flatMap plC) ∧ Below w.heap.size w (((w3.setCell ⟨w.heap.size, 0, none⟩ u).setCell ⟨w.heap.size + 1, 0, none⟩ u).setCell ⟨w.heap.size + 1, 1, none⟩ (.bool m)) := by
  have hz := rpW_size w v m
  have K : Kept (fun k => k = w.heap.size ∨ k = w.heap.size + 1) w3 (((w3.setCell ⟨w.heap.size, 0, none⟩ u).setCell ⟨w.heap.size + 1, 0, none⟩ u).setCell ⟨w.heap.size + 1, 1, none⟩ (.bool m)) :=
    (((Kept.refl (fun k => k = w.heap.size ∨ k = w.heap.size + 1) w3).setCell (p := ⟨w.heap.size, 0, none⟩) (fun _ => .inl rfl) _).setCell (p := ⟨w.heap.size + 1, 0, none⟩) (fun _ => .inr rfl) _).setCell (p := ⟨w.heap.size + 1, 1, none⟩) (fun _ => .inr rfl) _
  have ho := ownsRow_kept h.ow K (fun k hk e => by have := (h.ow.lt k hk).1; omega)
  have hB := below_on (rpW_below w v m) h.bl
  refine ⟨u, rfl, ⟨?_, fun h0 => h.nil (by rw [h.len, h0]; rfl)⟩, ?_, hB.trans (K.below hB.size (fun k hk e => by omega))⟩
  · show Rf _ 7 u xs.length _
    rw [← h.len]
    exact rf_of_owns ho (pl_flat_one _)
  · rw [← h.len]
    refine ⟨ho.1, ho.2.imp id ?_⟩
    rintro ⟨g, cap, cur, e1, hb, rest⟩
    exact ⟨g, cap, cur, e1, by omega, rest⟩

set_option maxRecDepth 100000 in
set_option maxHeartbeats 8000000 in
theorem rkept_own (v : Value) (m : Bool) (l : List Pl) (w : World) (h : RL w v l) (hl : l.length ≤ 1000000) : Calls Try.prog 66 #[.agg #[v, .bool m]] w fun x w' => ∃ v', x = .returned (.agg #[v', .bool m]) ∧ RL w' v' (l.filter keepP) ∧ w'.ownsRow w.heap.size 84 7 v' (l.filter keepP).length ((l.filter keepP).flatMap plC) ∧ Below w.heap.size w w' := by
  obtain ⟨ao, cap, e, -, -⟩ := h.1.shape
  subst e
  have HR := hid h
  generalize hP : (fun (x : Ending) (w' : World) => ∃ v', x = .returned (.agg #[v', .bool m]) ∧ RL w' v' (l.filter keepP) ∧ w'.ownsRow w.heap.size 84 7 v' (l.filter keepP).length ((l.filter keepP).flatMap plC) ∧ Below w.heap.size w w') = PP
  have FN2 := hid (show ∀ w3 u n, Ki (rpW w (.slice ao l.length cap) m) w3 u n (l.filter keepP) → PP (.returned (.agg #[u, .bool m])) (((w3.setCell ⟨w.heap.size, 0, none⟩ u).setCell ⟨w.heap.size + 1, 0, none⟩ u).setCell ⟨w.heap.size + 1, 1, none⟩ (.bool m)) from fun w3 u n h => by rw [← hP]; exact Ki.finO h)
  clear h hP
  go_enter Try.func66, Try.ntmps66
  go_wp2
  go_loopw [3, 4] (fun u i wr => ∃ k n : Nat, i = .int .i64 k ∧ k ≤ l.length ∧ Hid (Ki (rpW w (.slice ao l.length cap) m) wr u n ((l.take k).filter keepP))) (fun _ i _ => l.length - (intOf i).toNat)
  case atStart => exact ⟨0, 0, rfl, Nat.zero_le _, hid ⟨World.ownsRow_nil _ _ _ _, Below.refl _ _, rfl, fun _ => rfl⟩⟩
  case round =>
    obtain ⟨k, n, rfl, hk, HK⟩ := hrel
    obtain ⟨ao2, cap2, eu⟩ := HK.out.shape
    subst eu
    have hz := rpW_size w (.slice ao l.length cap) m
    have S1 := hid (hp_below (rpW_s w (.slice ao l.length cap) m) HK.out.bl (by omega))
    obtain ⟨y0, y1⟩ := cells2 S1.out
    by_cases h1 : k < l.length
    · obtain ⟨g, off, cap', e, -, -, -⟩ := HR.out.1.lits (by omega) (by omega)
      injection e with e1 _ e3
      subst e1 e3
      obtain ⟨e0, he⟩ : ∃ e, l[k] = e := ⟨_, rfl⟩
      have C2 := hid (show ∀ w1, Below w.heap.size w w1 → w1.cell? ⟨g, off + k * 7, none⟩ = some (.string e0.1) ∧ w1.cell? ⟨g, off + k * 7 + 1, none⟩ = some (.int .i64 e0.2.c0) ∧ w1.cell? ⟨g, off + k * 7 + 2, none⟩ = some (.int .i64 e0.2.c1) ∧ w1.cell? ⟨g, off + k * 7 + 3, none⟩ = some (.bool e0.2.h0) ∧ w1.cell? ⟨g, off + k * 7 + 4, none⟩ = some (.bool e0.2.h1) ∧ w1.cell? ⟨g, off + k * 7 + 5, none⟩ = some (.int .i64 (bit e0.2.r)) ∧ w1.cell? ⟨g, off + k * 7 + 6, none⟩ = some (.int .i64 (bit e0.2.w)) from fun w1 hb => by
        have R : Rl w1 _ l := Rf.below HR.out.1 hb
        simp only [Nat.add_assoc]
        exact ⟨Rl.cells R k h1 0 _ (by omega) (by rw [he]; rfl), Rl.cells R k h1 1 _ (by omega) (by rw [he]; rfl), Rl.cells R k h1 2 _ (by omega) (by rw [he]; rfl), Rl.cells R k h1 3 _ (by omega) (by rw [he]; rfl), Rl.cells R k h1 4 _ (by omega) (by rw [he]; rfl), Rl.cells R k h1 5 _ (by omega) (by rw [he]; rfl), Rl.cells R k h1 6 _ (by omega) (by rw [he]; rfl)⟩)
      obtain ⟨v0, v1, v2, v3, v4, v5, v6⟩ := C2.out wr (below_on (rpW_below _ _ _) HK.out.bl)
      have RH := hid (show ∀ w1, Calls Try.prog 65 #[.agg #[.int .i64 e0.2.c0, .int .i64 e0.2.c1, .bool e0.2.h0, .bool e0.2.h1, .int .i64 (bit e0.2.r), .int .i64 (bit e0.2.w)]] w1 fun x w' => x = .returned (.bool (e0.2.has e0.2.r)) ∧ Below w1.heap.size w1 w' from fun w1 => rhas_any e0.2 w1)
      have hT : l.take (k + 1) = l.take k ++ [e0] := by rw [List.take_add_one, List.getElem?_eq_getElem h1, he]; rfl
      have HN := hid (show n ≤ 1000000 from by
        have h2 := HK.out.len
        have h3 : ((l.take k).filter keepP).length ≤ (l.take k).length := List.length_filter_le _ _
        have h4 : (l.take k).length ≤ l.length := List.length_take_le' _ _
        omega)
      cases hh : e0.2.has e0.2.r
      · have T2 := hid (show (l.take (k + 1)).filter keepP = (l.take k).filter keepP from by rw [hT, List.filter_append]; simp [keepP, hh])
        rw [hh] at RH
        clear hh hT he
        go_wp2_with (
          go_at_call 65
          refine (RH.out wr).mono ?_
          rintro e w2 ⟨rfl, hb2⟩
          have K2 := hid (HK.out.on hb2)
          clear hb2)
        go_roundw
        case rel => exact ⟨k + 1, n, by go_num, by omega, hid (by rw [T2.out]; exact K2.out)⟩
        case measure => simp [intOf]; omega
      · have T2 := hid (show (l.take (k + 1)).filter keepP = (l.take k).filter keepP ++ [e0] from by rw [hT, List.filter_append]; simp [keepP, hh])
        rw [hh] at RH
        clear hh hT he
        go_wp2_with (first
          | (go_at_call 65
             refine (RH.out wr).mono ?_
             rintro e w2 ⟨rfl, hb2⟩
             have K2 := hid (HK.out.on hb2)
             obtain ⟨x0, x1, x2, x3, x4, x5, x6⟩ := C2.out w2 (below_on (rpW_below _ _ _) K2.out.bl)
             have u0 := (cells2 (hp_below S1.out hb2 (hp_lt S1.out))).1
             clear hb2)
          | (at_builtin
             refine wpList_append_rf (w2.alloc (.cells (plA e0) 84)) rfl (.tmp 19) (.tmp 25) 32 84 _ 7 56 rfl Try.underlying32 Try.info84 rfl (by omega) (rpW w (.slice (some ⟨g, off, none⟩) l.length cap) m).heap.size _ _ _ rfl (K2.out.on (below_new _ _)).ow (.slice (some ⟨w2.heap.size, 0, none⟩) 1 1) 1 (plC e0) rfl (rf_pl w2 e0) (by have := HN.out; omega) (by have := HN.out; unfold maxLen; omega) (K2.out.on (below_new _ _)).bl.size ?_
             intro a2 q2 w3 ho2 hg2 hat2
             have K3 := hid ((K2.out.on (below_new _ _)).step ho2.out rfl hg2.out)
             clear ho2 hg2 hat2))
        go_roundw
        case rel => exact ⟨k + 1, _, by go_num, by omega, hid (by rw [T2.out]; exact K3.out)⟩
        case measure => simp [intOf]; omega
    · have hk1 : k = l.length := by omega
      have N2 := hid (show Ki (rpW w (.slice ao l.length cap) m) wr (.slice ao2 n cap2) n (l.filter keepP) from by have := HK.out; rw [hk1, List.take_length] at this; exact this)
      have h1' : ¬ (k : Int) < l.length := by omega
      have R2 := hid (hp_below (rpW_r w (.slice ao l.length cap) m) HK.out.bl (by omega))
      obtain ⟨r0, r1⟩ := cells2 R2.out
      have ff : ∀ j, wr.frozen? ⟨w.heap.size, j, none⟩ = false := fun j => free_of_block S1.out
      have fr : ∀ j, wr.frozen? ⟨w.heap.size + 1, j, none⟩ = false := fun j => free_of_block R2.out
      go_wp2
      refine bodyPost_ret (ret_agg34 Try.results66 rfl (set2 (hp_set R2.out (by show w.heap.size + 1 ≠ w.heap.size; omega) _) _ _)) rfl ?_
      exact FN2.out _ _ _ N2.out

end Go.Proofs.Ythjggbcppgbdoaa

namespace Go.Proofs.Ythjggbcppgbdoaa
open Go.RowKit

/-- An entry that is marked. -/
def mkE (e : Pl) : Pl := (e.1, e.2.mk')

theorem owns_set {w : World} {B : Nat} {n g cap : Nat} {l1 l2 : List Pl} {e e' : Pl} (h : w.ownsRow B 84 7 (.slice (some ⟨g, 0, none⟩) n cap) n ((l1 ++ e :: l2).flatMap plC)) (u : Value) (he : (plC e).set 6 u = plC e') :
    (w.setCell ⟨g, l1.length * 7 + 6, none⟩ u).ownsRow B 84 7 (.slice (some ⟨g, 0, none⟩) n cap) n ((l1 ++ e' :: l2).flatMap plC) := by
  have hA : (l1.flatMap plC).length = l1.length * 7 := flat_len plC 7 plC_len l1
  refine ⟨?_, ?_⟩
  · have := h.1
    simp only [List.flatMap_append, List.flatMap_cons, List.length_append, plC_len] at this ⊢
    exact this
  · rcases h.2 with ⟨h0, -⟩ | ⟨g', cap', cur, e1, hb, hg, hc1, hc2, hc3, htk⟩
    · cases h0
    · injection e1 with e1 _ e3
      injection e1 with e1
      injection e1 with e1
      subst e1 e3
      refine .inr ⟨g, cap, cur.setIfInBounds (l1.length * 7 + 6) u, rfl, hb, set_block (i := l1.length * 7 + 6) hg u, hc1, hc2, by simp [hc3], ?_⟩
      rw [Array.toList_setIfInBounds, List.take_set, htk]
      simp only [List.flatMap_append, List.flatMap_cons]
      rw [List.set_append_right _ _ (by omega), hA, show l1.length * 7 + 6 - l1.length * 7 = 6 by omega, List.set_append_left _ _ (by rw [plC_len]; omega), he]

theorem owns_cell {w : World} {B : Nat} {n g cap : Nat} {l1 l2 : List Pl} {e : Pl} (h : w.ownsRow B 84 7 (.slice (some ⟨g, 0, none⟩) n cap) n ((l1 ++ e :: l2).flatMap plC)) (c : Nat) (u : Value) (hc : c < 7) (hu : (plC e)[c]? = some u) : w.cell? ⟨g, l1.length * 7 + c, none⟩ = some u := by
  have hA : (l1.flatMap plC).length = l1.length * 7 := flat_len plC 7 plC_len l1
  rcases h.2 with ⟨h0, -⟩ | ⟨g', cap', cur, e1, hb, hg, hc1, hc2, hc3, htk⟩
  · cases h0
  · injection e1 with e1 _ e3
    injection e1 with e1
    injection e1 with e1
    subst e1 e3
    rw [cell_of_row w g _ _ _ _ hg]
    have hx : ((l1 ++ e :: l2).flatMap plC)[l1.length * 7 + c]? = some u := by
      simp only [List.flatMap_append, List.flatMap_cons]
      rw [List.getElem?_append_right (by omega), hA, show l1.length * 7 + c - l1.length * 7 = c by omega, List.getElem?_append_left (by rw [plC_len]; omega)]
      exact hu
    rw [← htk] at hx
    have hlt : l1.length * 7 + c < n * 7 := by
      rcases Nat.lt_or_ge (l1.length * 7 + c) (n * 7) with h1 | h1
      · exact h1
      · rw [List.getElem?_eq_none (by rw [List.length_take]; omega)] at hx
        cases hx
    rw [List.getElem?_take_of_lt hlt] at hx
    simpa using hx

/-- So many are marked. -/
def upd (k : Nat) (l : List Pl) : List Pl := (l.take k).map mkE ++ l.drop k

theorem upd_at {k : Nat} {l : List Pl} (h : k < l.length) : upd k l = (l.take k).map mkE ++ l[k] :: l.drop (k + 1) ∧ upd (k + 1) l = (l.take k).map mkE ++ mkE l[k] :: l.drop (k + 1) := by
  constructor
  · unfold upd
    rw [← List.drop_eq_getElem_cons h]
  · unfold upd
    rw [List.take_add_one, List.getElem?_eq_getElem h, List.map_append, List.append_assoc]
    rfl

structure MkI (w wr : World) (v : Value) (l : List Pl) (k : Nat) : Prop where
  s : wr.heap[w.heap.size]? = some (.cells #[v, .bool false] 34 (0, 0))
  r : wr.heap[w.heap.size + 1]? = some (.cells #[.slice none 0 0, .bool false] 34 (0, 0))
  b : Below w.heap.size w wr
  o : wr.ownsRow (w.heap.size + 2) 84 7 v l.length ((upd k l).flatMap plC)

set_option maxRecDepth 100000 in
set_option maxHeartbeats 8000000 in
theorem rmark_idle (v : Value) (l : List Pl) (w : World) (h : RL w v l) (hl : l.length ≤ 1000000) : Calls Try.prog 36 #[.agg #[v, .bool false]] w fun x w' => ∃ v', x = .returned (.tuple #[.agg #[v', .bool true], .int .i64 0]) ∧ RL w' v' ((l.filter keepP).map mkE) ∧ Below w.heap.size w w' := by
  obtain ⟨ao, cap, e, -, -⟩ := h.1.shape
  subst e
  have hlf : (l.filter keepP).length ≤ 1000000 := Nat.le_trans (List.length_filter_le _ _) hl
  have K2 := hid (show Calls Try.prog 66 #[.agg #[.slice ao l.length cap, .bool false]] (rpW w (.slice ao l.length cap) false) fun x w' => ∃ ao2 cap2, x = .returned (.agg #[.slice ao2 (l.filter keepP).length cap2, .bool false]) ∧ Hid (w'.ownsRow (w.heap.size + 2) 84 7 (.slice ao2 (l.filter keepP).length cap2) (l.filter keepP).length ((l.filter keepP).flatMap plC) ∧ (l.filter keepP = [] → Value.slice ao2 (l.filter keepP).length cap2 = .slice none 0 0) ∧ Below (rpW w (.slice ao l.length cap) false).heap.size (rpW w (.slice ao l.length cap) false) w') from (rkept_own _ false l _ (h.below (rpW_below _ _ _)) hl).mono (by
    rintro x w' ⟨v', rfl, h1, h2, h3⟩
    obtain ⟨ao2, cap2, e2, -, -⟩ := h1.1.shape
    subst e2
    rw [rpW_size] at h2
    exact ⟨ao2, cap2, rfl, hid ⟨h2, h1.2, h3⟩⟩))
  generalize hlk : l.filter keepP = lk at K2 hlf ⊢
  generalize hP : (fun (x : Ending) (w' : World) => ∃ v', x = .returned (.tuple #[.agg #[v', .bool true], .int .i64 0]) ∧ RL w' v' (lk.map mkE) ∧ Below w.heap.size w w') = PP
  have HP := hid hP
  clear h hP hlk hl
  go_enter Try.func36, Try.ntmps36
  go_wp2_with (
    go_at_call 66
    refine K2.out.mono ?_
    rintro e w1 ⟨ao2, cap2, rfl, N1⟩
    have S1 := hp_below (rpW_s w (.slice ao l.length cap) false) N1.out.2.2 (by rw [rpW_size]; omega)
    have R1 := hp_below (rpW_r w (.slice ao l.length cap) false) N1.out.2.2 (by rw [rpW_size]; omega)
    have fs : ∀ j, w1.frozen? ⟨w.heap.size, j, none⟩ = false := fun j => free_of_block S1
    obtain ⟨s0, s1⟩ := cells2 S1
    have SR := hid (And.intro S1 R1)
    clear S1 R1 K2)
  have MK : Hid (MkI w ((w1.setCell ⟨w.heap.size, 0, none⟩ (.slice ao2 lk.length cap2)).setCell ⟨w.heap.size, 1, none⟩ (.bool false)) (.slice ao2 lk.length cap2) lk 0) := hid (by
    obtain ⟨h1, h2, h3⟩ := N1.out
    obtain ⟨S1, R1⟩ := SR.out
    have K : Kept (fun j => j = w.heap.size) w1 ((w1.setCell ⟨w.heap.size, 0, none⟩ (.slice ao2 lk.length cap2)).setCell ⟨w.heap.size, 1, none⟩ (.bool false)) := ((Kept.refl (fun j => j = w.heap.size) w1).setCell (p := ⟨w.heap.size, 0, none⟩) (fun _ => rfl) _).setCell (p := ⟨w.heap.size, 1, none⟩) (fun _ => rfl) _
    have hB := below_on (rpW_below w (.slice ao l.length cap) false) h3
    refine ⟨set2 S1 _ _, hp_kept R1 K (by omega), hB.trans (K.below hB.size (fun k hk e => by omega)), ?_⟩
    have e0 : upd 0 lk = lk := by unfold upd; simp
    rw [e0]
    exact ownsRow_kept h1 K (fun k hk e => by have := (h1.lt k hk).1; omega))
  have NE := hid N1.out.2.1
  generalize ((w1.setCell ⟨w.heap.size, 0, none⟩ (.slice ao2 lk.length cap2)).setCell ⟨w.heap.size, 1, none⟩ (.bool false)) = W1 at MK ⊢
  clear N1 SR s0 s1 fs
  go_loopw [4] (fun i wr => ∃ k : Nat, i = .int .i64 k ∧ k ≤ lk.length ∧ Hid (MkI w wr (.slice ao2 lk.length cap2) lk k)) (fun i _ => lk.length - (intOf i).toNat)
  case atStart => exact ⟨0, rfl, Nat.zero_le _, MK⟩
  case round =>
    obtain ⟨k, rfl, hk, HM⟩ := hrel
    obtain ⟨y0, y1⟩ := cells2 HM.out.s
    by_cases h1 : k < lk.length
    · have hv : ∃ g, ao2 = some ⟨g, 0, none⟩ ∧ w.heap.size + 2 ≤ g := by
        rcases HM.out.o.2 with ⟨-, h0⟩ | ⟨g, cap', cur, e1, hb, -⟩
        · omega
        · injection e1 with e1
          exact ⟨g, e1, hb⟩
      obtain ⟨g, rfl, hgl⟩ := hv
      obtain ⟨e1, e2⟩ := upd_at h1
      have hlen : ((lk.take k).map mkE).length = k := by simp; omega
      have OW := HM.out.o
      rw [e1] at OW
      have cr := owns_cell OW 5 _ (by omega) rfl
      have cw := owns_cell OW 6 _ (by omega) rfl
      rw [hlen] at cr cw
      have hsb : IntKind.i64.wrap (1 - bit lk[k].2.r) = bit (!lk[k].2.r) := by cases lk[k].2.r <;> rfl
      have hgb : ∃ cs, wr.heap[g]? = some (.cells cs 84 (0, 0)) := owns_cells HM.out.o g rfl
      obtain ⟨cs, hgb⟩ := hgb
      have fg : ∀ j, wr.frozen? ⟨g, j, none⟩ = false := fun j => free_of_block hgb
      have NX := hid (show MkI w (wr.setCell ⟨g, k * 7 + 6, none⟩ (.int .i64 (bit (!lk[k].2.r)))) (.slice (some ⟨g, 0, none⟩) lk.length cap2) lk (k + 1) from by
        have hs := owns_set OW (.int .i64 (bit (!lk[k].2.r))) (e' := mkE lk[k]) rfl
        rw [hlen, ← e2] at hs
        have K : Kept (fun j => j = g) wr (wr.setCell ⟨g, k * 7 + 6, none⟩ (.int .i64 (bit (!lk[k].2.r)))) := (Kept.refl (fun j => j = g) wr).setCell (p := ⟨g, k * 7 + 6, none⟩) (fun _ => rfl) _
        exact ⟨hp_kept HM.out.s K (by omega), hp_kept HM.out.r K (by omega), HM.out.b.trans (K.below HM.out.b.size (fun k hk e => by omega)), hs⟩)
      have hk0 : (0 : Int) ≤ k := by omega
      have hk1 : (k : Int) < lk.length := by omega
      clear OW e1 e2 hlen hgb
      generalize bit lk[k].2.r = zr at cr hsb
      generalize bit (!lk[k].2.r) = zn at hsb NX
      generalize bit lk[k].2.w = zw at cw
      go_wp2_with fail
      go_region
      have N5 : Hid (MkI w (wr.setCell ⟨g, k * 7 + 1 + 5, none⟩ (.int .i64 zn)).drew (.slice (some ⟨g, 0, none⟩) lk.length cap2) lk (k + 1)) := hid ⟨NX.out.s, NX.out.r, NX.out.b.drew, NX.out.o⟩
      generalize (wr.setCell ⟨g, k * 7 + 1 + 5, none⟩ (.int .i64 zn)).drew = W5 at N5 ⊢
      go_wp2
      go_roundw
      case rel => exact ⟨k + 1, by go_num, by omega, N5⟩
      case measure => simp [intOf]; omega
    · have hk1 : k = lk.length := by omega
      have h1' : ¬ (k : Int) < lk.length := by omega
      obtain ⟨r0, r1⟩ := cells2 HM.out.r
      have ff : ∀ j, wr.frozen? ⟨w.heap.size, j, none⟩ = false := fun j => free_of_block HM.out.s
      have fr : ∀ j, wr.frozen? ⟨w.heap.size + 1, j, none⟩ = false := fun j => free_of_block HM.out.r
      go_wp2
      refine bodyPost_ret (ret_agg34i Try.results36 rfl rfl (set2 (hp_set HM.out.r (by show w.heap.size + 1 ≠ w.heap.size; omega) _) _ _)) rfl ?_
      rw [← HP.out]
      have hm := HM.out
      rw [hk1] at hm
      have eu : upd lk.length lk = lk.map mkE := by unfold upd; simp
      have K : Kept (fun j => j = w.heap.size ∨ j = w.heap.size + 1) wr (((wr.setCell ⟨w.heap.size, 1, none⟩ (.bool true)).setCell ⟨w.heap.size + 1, 0, none⟩ (.slice ao2 lk.length cap2)).setCell ⟨w.heap.size + 1, 1, none⟩ (.bool true)) :=
        (((Kept.refl _ wr).setCell (p := ⟨w.heap.size, 1, none⟩) (fun _ => .inl rfl) _).setCell (p := ⟨w.heap.size + 1, 0, none⟩) (fun _ => .inr rfl) _).setCell (p := ⟨w.heap.size + 1, 1, none⟩) (fun _ => .inr rfl) _
      have ho := ownsRow_kept hm.o K (fun j hj e => by have := (hm.o.lt j hj).1; omega)
      rw [eu] at ho
      refine ⟨_, rfl, ⟨?_, fun h0 => NE.out (List.map_eq_nil_iff.1 h0)⟩, hm.b.trans (K.below hm.b.size (fun j hj e => by omega))⟩
      show Rf _ 7 _ (lk.map mkE).length _
      rw [List.length_map]
      exact rf_of_owns ho (pl_flat_one _)

end Go.Proofs.Ythjggbcppgbdoaa

namespace Go.Proofs.Ythjggbcppgbdoaa
open Go.RowKit

/-- The least key above a text that has something. -/
def nxP (key : ByteArray) (l : List Pl) : ByteArray × Bool := match rnx key l with | some e => (e.1, true) | none => (⟨#[]⟩, false)

theorem rnextV_eq (key : ByteArray) (l : List Pl) : rnextV key l = .tuple #[.string (nxP key l).1, .bool (nxP key l).2] := by
  unfold rnextV nxP
  cases rnx key l <;> rfl

theorem fit_next (key : ByteArray) : fitP false (bhd key) ⟨#[]⟩ = fun e => kl key e.1 && e.2.has e.2.r := by
  funext e
  unfold fitP
  rw [kl_behind, emp_eq rfl]
  show (!!kl key e.1 && (true || _) && _) = _
  rw [Bool.not_not, Bool.true_or, Bool.and_true]
  rfl
theorem fit_held (key : ByteArray) : fitP true (bhd key) ⟨#[]⟩ = abP key := by
  funext e
  unfold fitP
  rw [kl_behind, emp_eq rfl]
  show (!!kl key e.1 && (true || _) && _) = _
  rw [Bool.not_not, Bool.true_or, Bool.and_true]
  rfl

theorem least_next (key : ByteArray) (l : List Pl) : (leastW false (bhd key) ⟨#[]⟩ l).1 = (nxP key l).1 ∧ (leastW false (bhd key) ⟨#[]⟩ l).2.2 = (nxP key l).2 := by
  unfold leastW leastP nxP rnx
  rw [fit_next]
  cases List.find? (fun e : Pl => kl key e.1 && e.2.has e.2.r) l <;> exact ⟨rfl, rfl⟩
theorem least_held (key : ByteArray) (l : List Pl) : leastW true (bhd key) ⟨#[]⟩ l = rabV key true l := by
  unfold leastW leastP rabV
  rw [fit_held, if_pos rfl]
  cases List.find? (abP key) l <;> rfl

theorem vnext (p : Nat) (key : ByteArray) (V : List Pl) (m : Bool) (F : Nat → Prop) (w : World) (h : ZV w p V m F) (hk : key.size ≤ 281474976710000) :
    Calls Try.prog 22 #[.pointer (some ⟨p, 0, none⟩), .string key] w fun x w' => x = .returned (.tuple #[.string (nxP key V).1, .bool (nxP key V).2]) ∧ Below w.heap.size w w' := by
  have L := vleast49 p (bhd key) ⟨#[]⟩ V m F w h (by rw [bhd_size]; omega) (by decide)
  rw [(least_next key V).1, (least_next key V).2] at L
  exact snext_any (some ⟨p, 0, none⟩) key _ _ _ w hk L

theorem dnext (v : Value) (m : Bool) (l : List Pl) (key : ByteArray) (w : World) (h : RL w v l) (hl : l.length ≤ 1000000) : Calls Try.prog 41 #[.agg #[v, .bool m], .string key] w fun x w' => x = .returned (.tuple #[.string (nxP key l).1, .bool (nxP key l).2]) ∧ Below w.heap.size w w' := by
  refine (rnext_any v m l key w h.1 hl).mono ?_
  rintro x w' ⟨rfl, hb⟩
  exact ⟨by rw [rnextV_eq], hb⟩

theorem dslot (v : Value) (m : Bool) (l : List Pl) (key : ByteArray) (w : World) (h : RL w v l) (hl : l.length ≤ 1000000) : Calls Try.prog 42 #[.agg #[v, .bool m], .string key] w fun x w' => x = .returned (.tuple #[(slotW key l).1.agg, .bool (slotW key l).2]) ∧ Below w.heap.size w w' := by
  cases hs : rs key l
  · have e : slotW key l = (⟨0, 0, false, false, false, false⟩, false) := by
      unfold slotW
      cases l[ri key l]? with
      | none => rfl
      | some e => simp [hs]
    rw [e]
    exact rslot_no v m l key w h hl hs
  · obtain ⟨hk, he⟩ := rs_at hs
    have hE : l[ri key l] = (key, l[ri key l].2) := Prod.ext he rfl
    have e : slotW key l = (l[ri key l].2, true) := by
      unfold slotW
      rw [List.getElem?_eq_getElem hk]
      simp [hs]
    rw [e]
    exact rslot_has v m l key w h hl hs _ hk hE

theorem dabove (v : Value) (m : Bool) (l : List Pl) (key : ByteArray) (w : World) (h : RL w v l) (hl : l.length ≤ 1000000) : Calls Try.prog 44 #[.agg #[v, .bool m], .string key] w fun x w' => x = .returned (.tuple #[.string (rabV key m l).1, .int .i64 (rabV key m l).2.1, .bool (rabV key m l).2.2]) ∧ Below w.heap.size w w' := rabove_any v m l key w h.1 hl

end Go.Proofs.Ythjggbcppgbdoaa

namespace Go.Proofs.Ythjggbcppgbdoaa
open Go.RowKit

set_option maxRecDepth 100000 in
set_option maxHeartbeats 8000000 in
theorem alike_any (p : Nat) (v : Value) (m : Bool) (l : List Pl) (key : ByteArray) (F : Nat → Prop) (w : World) (hz : ZV w p l m F) (h : RL w v l) (hl : l.length ≤ 500000) (hk : key.size ≤ 281474976710000) :
    Calls Try.prog 13 #[.pointer (some ⟨p, 0, none⟩), .agg #[v, .bool m], .string key] w fun x w' => x = .returned (.bool true) ∧ Below w.heap.size w w' := by
  have h53 := q53
  have h54 := q54
  have P1 := hid (fun W (hb : Below w.heap.size w W) => vget p key l m F W (hz.below hb))
  have D1 := hid (fun W (hb : Below w.heap.size w W) => rget_any v m l key W (h.below hb).1 (by omega))
  have P2 := hid (fun W (hb : Below w.heap.size w W) => vnext p key l m F W (hz.below hb) hk)
  have D2 := hid (fun W (hb : Below w.heap.size w W) => dnext v m l key W (h.below hb) (by omega))
  have P3 := hid (fun W (hb : Below w.heap.size w W) => vslot p key l m F W (hz.below hb))
  have D3 := hid (fun W (hb : Below w.heap.size w W) => dslot v m l key W (h.below hb) (by omega))
  have P4 := hid (fun W (hb : Below w.heap.size w W) => vlen p l m F W (hz.below hb))
  have D4 := hid (fun W (hb : Below w.heap.size w W) => rlen_any v m l W (h.below hb) (by omega))
  have P5 := hid (fun W (hb : Below w.heap.size w W) => vmarked p l m F W (hz.below hb))
  obtain ⟨ao, cap, ev, -, -⟩ := h.1.shape
  clear hz h hk
  unfold Sd.agg at P3 D3
  generalize (slotW key l).2 = sq at P3 D3
  generalize (slotW key l).1 = ss at P3 D3
  obtain ⟨c0, c1, h0, h1, r, wb⟩ := ss
  simp only at P3 D3
  generalize bit r = zr at P3 D3
  generalize bit wb = zw at P3 D3
  generalize (rgetV key l).1 = ga at P1 D1
  generalize (rgetV key l).2 = gb at P1 D1
  generalize (nxP key l).1 = na at P2 D2
  generalize (nxP key l).2 = nb at P2 D2
  generalize ((l.filter keepP).length : Int) = ln at P4 D4
  subst ev
  generalize hW0 : w.alloc (.cells #[.slice ao l.length cap, .bool m] 34) = W0
  have X0 := hid (show W0.heap[w.heap.size]? = some (.cells #[.slice ao l.length cap, .bool m] 34 (0, 0)) from hW0 ▸ hp_new _ _)
  have B0 := hid (show Below w.heap.size w W0 from hW0 ▸ below_new _ _)
  have HW := hid hW0
  clear hW0
  go_enter Try.func13, Try.ntmps13
  go_wp2_with (first
    | (go_at_call 21
       rw [HW.out]
       refine (P1.out W0 B0.out).mono ?_
       rintro e w1 ⟨rfl, hb⟩
       have B1 := hid (below_on B0.out hb)
       have X1 := hid (hp_below X0.out hb (hp_lt X0.out))
       obtain ⟨a0, a1⟩ := cells2 X1.out
       clear hb X0 B0)
    | (go_at_call 40
       refine (D1.out w1 B1.out).mono ?_
       rintro e w2 ⟨rfl, hb⟩
       have B2 := hid (below_on B1.out hb)
       have X2 := hid (hp_below X1.out hb (hp_lt X1.out))
       clear hb X1 B1 a0 a1)
    | (go_at_call 22
       refine (P2.out w2 B2.out).mono ?_
       rintro e w3 ⟨rfl, hb⟩
       have B3 := hid (below_on B2.out hb)
       have X3 := hid (hp_below X2.out hb (hp_lt X2.out))
       obtain ⟨a0, a1⟩ := cells2 X3.out
       clear hb X2 B2)
    | (go_at_call 41
       refine (D2.out w3 B3.out).mono ?_
       rintro e w4 ⟨rfl, hb⟩
       have B4 := hid (below_on B3.out hb)
       have X4 := hid (hp_below X3.out hb (hp_lt X3.out))
       clear hb X3 B3 a0 a1)
    | (go_at_call 23
       refine (P3.out w4 B4.out).mono ?_
       rintro e w5 ⟨rfl, hb⟩
       have B5 := hid (below_on (below_on B4.out hb) (below_new w5 (.cells #[.int .i64 c0, .int .i64 c1, .bool h0, .bool h1, .int .i64 zr, .int .i64 zw] 56)))
       have X5 := hid (hp_alloc (hp_below X4.out hb (hp_lt X4.out)) (.cells #[.int .i64 c0, .int .i64 c1, .bool h0, .bool h1, .int .i64 zr, .int .i64 zw] 56))
       have Y5 := hid (hp_new w5 (.cells #[.int .i64 c0, .int .i64 c1, .bool h0, .bool h1, .int .i64 zr, .int .i64 zw] 56))
       obtain ⟨a0, a1⟩ := cells2 X5.out
       clear hb X4 B4)
    | (go_at_call 42
       refine (D3.out _ B5.out).mono ?_
       rintro e w6 ⟨rfl, hb⟩
       have B6 := hid (below_on (below_on B5.out hb) (below_new w6 (.cells #[.int .i64 c0, .int .i64 c1, .bool h0, .bool h1, .int .i64 zr, .int .i64 zw] 56)))
       have X6 := hid (hp_alloc (hp_below X5.out hb (hp_lt X5.out)) (.cells #[.int .i64 c0, .int .i64 c1, .bool h0, .bool h1, .int .i64 zr, .int .i64 zw] 56))
       have Y6 := hid (hp_alloc (hp_below Y5.out hb (hp_lt Y5.out)) (.cells #[.int .i64 c0, .int .i64 c1, .bool h0, .bool h1, .int .i64 zr, .int .i64 zw] 56))
       have Z6 := hid (hp_new w6 (.cells #[.int .i64 c0, .int .i64 c1, .bool h0, .bool h1, .int .i64 zr, .int .i64 zw] 56))
       clear hb X5 B5 Y5 a0 a1))
  generalize w6.alloc (.cells #[.int .i64 c0, .int .i64 c1, .bool h0, .bool h1, .int .i64 zr, .int .i64 zw] 56) = W7 at B6 X6 Y6 Z6 ⊢
  obtain ⟨a0, a1⟩ := cells2 X6.out
  obtain ⟨y0, y1, y2, y3, y4, y5⟩ := cells6 Y6.out
  obtain ⟨z0, z1, z2, z3, z4, z5⟩ := cells6 Z6.out
  have L6 := hid (hp_lt X6.out)
  have SS := hid (show ∀ wx, Below W7.heap.size W7 wx → wx.cell? ⟨w.heap.size, 0, none⟩ = some (.slice ao l.length cap) ∧ wx.cell? ⟨w.heap.size, 1, none⟩ = some (.bool m) ∧ wx.cell? ⟨w5.heap.size, 0, none⟩ = some (.int .i64 c0) ∧ wx.cell? ⟨w5.heap.size, 1, none⟩ = some (.int .i64 c1) ∧ wx.cell? ⟨w5.heap.size, 2, none⟩ = some (.bool h0) ∧ wx.cell? ⟨w5.heap.size, 3, none⟩ = some (.bool h1) ∧ wx.cell? ⟨w5.heap.size, 4, none⟩ = some (.int .i64 zr) ∧ wx.cell? ⟨w5.heap.size, 5, none⟩ = some (.int .i64 zw) ∧ wx.cell? ⟨w6.heap.size, 0, none⟩ = some (.int .i64 c0) ∧ wx.cell? ⟨w6.heap.size, 1, none⟩ = some (.int .i64 c1) ∧ wx.cell? ⟨w6.heap.size, 2, none⟩ = some (.bool h0) ∧ wx.cell? ⟨w6.heap.size, 3, none⟩ = some (.bool h1) ∧ wx.cell? ⟨w6.heap.size, 4, none⟩ = some (.int .i64 zr) ∧ wx.cell? ⟨w6.heap.size, 5, none⟩ = some (.int .i64 zw) from fun wx hb => by
    obtain ⟨p0, p1⟩ := cells2 (hp_below X6.out hb (hp_lt X6.out))
    obtain ⟨p2, p3, p4, p5, p6, p7⟩ := cells6 (hp_below Y6.out hb (hp_lt Y6.out))
    obtain ⟨q2, q3, q4, q5, q6, q7⟩ := cells6 (hp_below Z6.out hb (hp_lt Z6.out))
    exact ⟨p0, p1, p2, p3, p4, p5, p6, p7, q2, q3, q4, q5, q6, q7⟩)
  clear X6 Y6 Z6 HW P1 D1 P2 D2 P3 D3 L6
  go_region_held3 (fun wx => wx.cell? ⟨w.heap.size, 0, none⟩ = some (.slice ao l.length cap) ∧ wx.cell? ⟨w.heap.size, 1, none⟩ = some (.bool m) ∧ wx.cell? ⟨w5.heap.size, 0, none⟩ = some (.int .i64 c0) ∧ wx.cell? ⟨w5.heap.size, 1, none⟩ = some (.int .i64 c1) ∧ wx.cell? ⟨w5.heap.size, 2, none⟩ = some (.bool h0) ∧ wx.cell? ⟨w5.heap.size, 3, none⟩ = some (.bool h1) ∧ wx.cell? ⟨w5.heap.size, 4, none⟩ = some (.int .i64 zr) ∧ wx.cell? ⟨w5.heap.size, 5, none⟩ = some (.int .i64 zw) ∧ wx.cell? ⟨w6.heap.size, 0, none⟩ = some (.int .i64 c0) ∧ wx.cell? ⟨w6.heap.size, 1, none⟩ = some (.int .i64 c1) ∧ wx.cell? ⟨w6.heap.size, 2, none⟩ = some (.bool h0) ∧ wx.cell? ⟨w6.heap.size, 3, none⟩ = some (.bool h1) ∧ wx.cell? ⟨w6.heap.size, 4, none⟩ = some (.int .i64 zr) ∧ wx.cell? ⟨w6.heap.size, 5, none⟩ = some (.int .i64 zw))
    (first | (go_keep; done) | (exact SS.out _ (Below.refl _ _).drew) | (exact SS.out _ K9.out))
    (first
      | (go_at_call 24
         refine (P4.out W7.drew B6.out.drew).mono ?_
         rintro e w8 ⟨rfl, e8⟩
         rw [e8]
         clear e8 w8 P4)
      | (go_at_call 43
         refine (D4.out W7.drew B6.out.drew).mono ?_
         rintro e w9 ⟨rfl, hb⟩
         have B9 := hid (below_on B6.out.drew hb)
         have K9 := hid (show Below W7.heap.size W7 w9 from undrew hb)
         clear hb D4)
      | (go_at_call 25
         refine (P5.out w9 B9.out).mono ?_
         rintro e w8 ⟨rfl, e8⟩
         rw [e8]
         clear e8 w8 P5))
  all_goals
    go_wp2
    go_ret
    exact ⟨rfl, B9.out⟩

end Go.Proofs.Ythjggbcppgbdoaa

namespace Go.Proofs.Ythjggbcppgbdoaa
open Go.RowKit

/-- The boxes of held: is everything alike, is there one, its key and value; the document's store. -/
structure HB (W : World) (b1 b2 b3 b4 b5 : Nat) (q : Bool) (k : ByteArray) (x : Int) (v : Value) (m : Bool) : Prop where
  ok : W.heap[b1]? = some (.cells #[.bool true] 4 (0, 0))
  is : W.heap[b2]? = some (.cells #[.bool q] 4 (0, 0))
  k : Bx W b3 k
  x : W.heap[b4]? = some (.cells #[.int .i64 x] 3 (0, 0))
  w : W.heap[b5]? = some (.cells #[v, .bool m] 34 (0, 0))
  ne : b1 ≠ b2

theorem HB.below {W W' : World} {b1 b2 b3 b4 b5 : Nat} {q : Bool} {k : ByteArray} {x : Int} {v : Value} {m : Bool} (h : HB W b1 b2 b3 b4 b5 q k x v m) (hb : Below W.heap.size W W') : HB W' b1 b2 b3 b4 b5 q k x v m :=
  ⟨hp_below h.ok hb (hp_lt h.ok), hp_below h.is hb (hp_lt h.is), hp_below h.k hb (hp_lt h.k), hp_below h.x hb (hp_lt h.x), hp_below h.w hb (hp_lt h.w), h.ne⟩

set_option maxRecDepth 100000 in
set_option maxHeartbeats 4000000 in
theorem held45 (b1 b2 b3 b4 b5 : Nat) (k : ByteArray) (x : Int) (v : Value) (m : Bool) (l : List Pl) (w : World) (h : HB w b1 b2 b3 b4 b5 true k x v m) (hr : RL w v l) (hl : l.length ≤ 500000) (hro : ∀ j, v.ownBlock = some j → j ≠ b1 ∧ j ≠ b2 ∧ j ≠ b3 ∧ j ≠ b4) :
    Calls Try.prog 45 #[.string k, .int .i64 x, .pointer (some ⟨b1, 0, none⟩), .pointer (some ⟨b2, 0, none⟩), .pointer (some ⟨b3, 0, none⟩), .pointer (some ⟨b4, 0, none⟩), .pointer (some ⟨b5, 0, none⟩)] w fun y w' => y = .returned (.bool true) ∧ HB w' b1 b2 b3 b4 b5 (rabV k m l).2.2 (rabV k m l).1 (rabV k m l).2.1 v m ∧ Kept (fun j => j = b1 ∨ j = b2 ∨ j = b3 ∨ j = b4) w w' := by
  obtain ⟨ao, cap, ev, -, -⟩ := hr.1.shape
  subst ev
  have n12 := h.ne
  have n13 : b1 ≠ b3 := by intro e; subst e; have := h.ok; rw [h.k] at this; cases this
  have n14 : b1 ≠ b4 := by intro e; subst e; have := h.ok; rw [h.x] at this; cases this
  have n15 : b1 ≠ b5 := by intro e; subst e; have := h.ok; rw [h.w] at this; cases this
  have n23 : b2 ≠ b3 := by intro e; subst e; have := h.is; rw [h.k] at this; cases this
  have n24 : b2 ≠ b4 := by intro e; subst e; have := h.is; rw [h.x] at this; cases this
  have n25 : b2 ≠ b5 := by intro e; subst e; have := h.is; rw [h.w] at this; cases this
  have n34 : b3 ≠ b4 := by intro e; subst e; have := h.k; rw [Bx, h.x] at this; cases this
  have n35 : b3 ≠ b5 := by intro e; subst e; have := h.k; rw [Bx, h.w] at this; cases this
  have n45 : b4 ≠ b5 := by intro e; subst e; have := h.x; rw [h.w] at this; cases this
  have c1 := cells1 h.ok
  have c2 := cells1 h.is
  have c3 := cells1 h.k
  have c4 := cells1 h.x
  obtain ⟨c5, c6⟩ := cells2 h.w
  have f1 : ∀ j, w.frozen? ⟨b1, j, none⟩ = false := fun j => free_of_block h.ok
  have W1k : Kept (fun j => j = b1) w (w.setCell ⟨b1, 0, none⟩ (.bool true)) := (Kept.refl (fun j => j = b1) w).setCell (p := ⟨b1, 0, none⟩) (fun _ => rfl) _
  have H1 := hid (show HB (w.setCell ⟨b1, 0, none⟩ (.bool true)) b1 b2 b3 b4 b5 true k x (.slice ao l.length cap) m from ⟨set_block (i := 0) h.ok _, hp_set h.is (fun e => n12 e.symm) _, hp_set h.k (fun e => n13 e.symm) _, hp_set h.x (fun e => n14 e.symm) _, hp_set h.w (fun e => n15 e.symm) _, n12⟩)
  have R1 : RL (w.setCell ⟨b1, 0, none⟩ (.bool true)) (.slice ao l.length cap) l := ⟨hr.1.kept W1k (fun j hj e => (hro j hj).1 e), hr.2⟩
  have D1 := hid (dabove _ m l k _ R1 (by omega))
  have K1 := hid W1k
  clear h hr hl hro W1k R1
  generalize rabV k m l = ra at D1 ⊢
  obtain ⟨rk, rx, rq⟩ := ra
  simp only at D1 ⊢
  go_enter Try.func45, Try.ntmps45
  go_wp2_with (
    go_at_call 44
    refine D1.out.mono ?_
    rintro e w2 ⟨rfl, hb⟩
    have H2 := hid (H1.out.below hb)
    have K2 := hid (K1.out.trans (Kept.ofBelow hb) (fun _ _ e => e.elim))
    have d1 := cells1 H2.out.ok
    have d2 := cells1 H2.out.is
    have d3 := cells1 H2.out.k
    have d4 := cells1 H2.out.x
    have g2 : ∀ j, w2.frozen? ⟨b2, j, none⟩ = false := fun j => free_of_block H2.out.is
    have g3 : ∀ j, w2.frozen? ⟨b3, j, none⟩ = false := fun j => free_of_block H2.out.k
    have g4 : ∀ j, w2.frozen? ⟨b4, j, none⟩ = false := fun j => free_of_block H2.out.x
    clear hb D1)
  go_ret
  have h2 := H2.out
  refine ⟨rfl, ⟨?_, ?_, ?_, ?_, ?_, n12⟩, ?_⟩
  · exact hp_set (hp_set (hp_set h2.ok n13 _) n14 _) n12 _
  · exact set_block (i := 0) (hp_set (hp_set h2.is n23 _) n24 _) _
  · exact hp_set (hp_set (set_block (i := 0) h2.k _) n34 _) (fun e => n23 e.symm) _
  · exact hp_set (set_block (i := 0) (hp_set h2.x (fun e => n34 e.symm) _) _) (fun e => n24 e.symm) _
  · exact hp_set (hp_set (hp_set h2.w (fun e => n35 e.symm) _) (fun e => n45 e.symm) _) (fun e => n25 e.symm) _
  · exact (((K2.out.mono (fun _ _ e => .inl e)).setCell (p := ⟨b3, 0, none⟩) (fun _ => .inr (.inr (.inl rfl))) _).setCell (p := ⟨b4, 0, none⟩) (fun _ => .inr (.inr (.inr rfl))) _).setCell (p := ⟨b2, 0, none⟩) (fun _ => .inr (.inl rfl)) _

end Go.Proofs.Ythjggbcppgbdoaa
