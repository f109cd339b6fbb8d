import Derived.Test.YthjggbcppgbdoaaK07
namespace Go.Proofs.Ythjggbcppgbdoaa
open Go.RowKit

/-- The least key above a text that has something, by the document. -/
def rnx (key : ByteArray) (l : List Pl) : Option Pl := l.find? (fun e => kl key e.1 && e.2.has e.2.r)
def rnextV (key : ByteArray) (l : List Pl) : Value := match rnx key l with | some e => .tuple #[.string e.1, .bool true] | none => .tuple #[.string ⟨#[]⟩, .bool false]

theorem find_at {α : Type} {p : α → Bool} {l : List α} {k : Nat} (h1 : ∀ j (hj : j < l.length), j < k → p l[j] = false) (hk : k < l.length) (hp : p l[k] = true) : l.find? p = some l[k] := by
  have e : l = l.take k ++ l[k] :: l.drop (k + 1) := by rw [← List.drop_eq_getElem_cons hk, List.take_append_drop]
  have hn : (l.take k).find? p = none := by
    rw [List.find?_eq_none]
    intro x hx
    obtain ⟨j, hj, rfl⟩ := List.getElem_of_mem hx
    rw [List.length_take] at hj
    rw [List.getElem_take, h1 j (by omega) (by omega)]
    simp
  have : ∀ f : α → Bool, l.find? f = ((l.take k).find? f).or ((l[k] :: l.drop (k + 1)).find? f) := fun f => by rw [← List.find?_append, ← e]
  rw [this, hn, List.find?_cons, hp]
  rfl
theorem find_no {α : Type} {p : α → Bool} {l : List α} (h1 : ∀ j (hj : j < l.length), p l[j] = false) : l.find? p = none := by
  rw [List.find?_eq_none]
  intro x hx
  obtain ⟨j, hj, rfl⟩ := List.getElem_of_mem hx
  rw [h1 j hj]
  simp

def RnP (key : ByteArray) (l : List Pl) (w : World) : Ending → World → Prop := fun x w' => x = .returned (rnextV key l) ∧ Below w.heap.size w w'

set_option maxRecDepth 100000 in
set_option maxHeartbeats 4000000 in
theorem rnext_any (v : Value) (m : Bool) (l : List Pl) (key : ByteArray) (w : World) (h : Rl w v l) (hl : l.length ≤ 1000000) : Calls Try.prog 41 #[.agg #[v, .bool m], .string key] w (RnP key l w) := by
  obtain ⟨ao, cap, e, -, -⟩ := h.shape
  subst e
  obtain ⟨W, hW⟩ : ∃ W, W = w.alloc (.cells #[.slice ao l.length cap, .bool m] 34) := ⟨_, rfl⟩
  have B0 := hid (show Below w.heap.size w W from hW ▸ below_new _ _)
  have hbox : W.heap[w.heap.size]? = some (.cells #[.slice ao l.length cap, .bool m] 34 (0, 0)) := by rw [hW]; exact hp_new _ _
  have HX := hid hbox
  have HW := hid hW
  have HR := hid h
  have FS := hid (show ∀ (k : Nat) (hk : k < l.length), (∀ j (hj : j < l.length), j < k → (kl key l[j].1 && l[j].2.has l[j].2.r) = false) → (kl key l[k].1 && l[k].2.has l[k].2.r) = true → ∀ w', Below w.heap.size w w' → RnP key l w (.returned (.tuple #[.string l[k].1, .bool true])) w' from fun k hk h1 h2 w' hb => by
    refine ⟨?_, hb⟩
    unfold rnextV rnx
    rw [find_at (p := fun e : Pl => kl key e.1 && e.2.has e.2.r) h1 hk h2])
  have FN := hid (show (∀ j (hj : j < l.length), (kl key l[j].1 && l[j].2.has l[j].2.r) = false) → ∀ w', Below w.heap.size w w' → RnP key l w (.returned (.tuple #[.string ⟨#[]⟩, .bool false])) w' from fun h1 w' hb => by
    refine ⟨?_, hb⟩
    unfold rnextV rnx
    rw [find_no (p := fun e : Pl => kl key e.1 && e.2.has e.2.r) h1])
  generalize hP : RnP key l w = PP at FS FN ⊢
  clear h hbox hP hW
  go_enter Try.func41, Try.ntmps41
  go_wp2
  rw [← HW.out]
  go_loopw [6] (fun i wr => ∃ k : Nat, i = .int .i64 k ∧ k ≤ l.length ∧ Hid (∀ j (hj : j < l.length), j < k → (kl key l[j].1 && l[j].2.has l[j].2.r) = false) ∧ Hid (Below W.heap.size W wr)) (fun i _ => l.length - (intOf i).toNat)
  case atStart => exact ⟨0, rfl, Nat.zero_le _, hid (fun j hj h => by omega), hid (Below.refl _ _)⟩
  case round =>
    obtain ⟨k, rfl, hk, hno, hb⟩ := hrel
    have y0 := (cells2 (hp_below HX.out hb.out (hp_lt HX.out))).1
    by_cases h1 : k < l.length
    · obtain ⟨g, off, cap', e, -, -, -⟩ := HR.out.lits (by omega) (by omega)
      injection e with e1 _ e3
      subst e1 e3
      obtain ⟨e0, he⟩ : ∃ e, l[k] = e := ⟨_, rfl⟩
      have CW := hid (show ∀ w1, Below w.heap.size w w1 → ∀ c u, c < 7 → (plC e0)[c]? = some u → w1.cell? ⟨g, off + (k * 7 + c), none⟩ = some u from fun w1 hb c u hc hu => by
        have := Rl.cells HR.out k h1 c u hc (by rw [he]; exact hu)
        exact (hb.cell (p := ⟨g, off + (k * 7 + c), none⟩) (World.block_lt_of_cell? _ _ this)).trans this)
      have C2 := hid (show ∀ w1, Below w.heap.size w w1 → w1.cell? ⟨g, off + k * 7, none⟩ = some (.string e0.1) ∧ w1.cell? ⟨g, off + k * 7 + 1, none⟩ = some (.int .i64 e0.2.c0) ∧ w1.cell? ⟨g, off + k * 7 + 2, none⟩ = some (.int .i64 e0.2.c1) ∧ w1.cell? ⟨g, off + k * 7 + 3, none⟩ = some (.bool e0.2.h0) ∧ w1.cell? ⟨g, off + k * 7 + 4, none⟩ = some (.bool e0.2.h1) ∧ w1.cell? ⟨g, off + k * 7 + 5, none⟩ = some (.int .i64 (bit e0.2.r)) ∧ w1.cell? ⟨g, off + k * 7 + 6, none⟩ = some (.int .i64 (bit e0.2.w)) from fun w1 hb => by
        simp only [Nat.add_assoc]
        exact ⟨CW.out w1 hb 0 _ (by omega) rfl, CW.out w1 hb 1 _ (by omega) rfl, CW.out w1 hb 2 _ (by omega) rfl, CW.out w1 hb 3 _ (by omega) rfl, CW.out w1 hb 4 _ (by omega) rfl, CW.out w1 hb 5 _ (by omega) rfl, CW.out w1 hb 6 _ (by omega) rfl⟩)
      obtain ⟨v0, v1, v2, v3, v4, v5, v6⟩ := C2.out wr (below_on B0.out hb.out)
      have RH := hid (show ∀ w1, Calls Try.prog 65 #[.agg #[.int .i64 e0.2.c0, .int .i64 e0.2.c1, .bool e0.2.h0, .bool e0.2.h1, .int .i64 (bit e0.2.r), .int .i64 (bit e0.2.w)]] w1 fun x w' => x = .returned (.bool (e0.2.has e0.2.r)) ∧ Below w1.heap.size w1 w' from fun w1 => rhas_any e0.2 w1)
      have HNX := hid (show (kl key e0.1 && e0.2.has e0.2.r) = false → ∀ j (hj : j < l.length), j < k + 1 → (kl key l[j].1 && l[j].2.has l[j].2.r) = false from fun hf j hj hjk => by
        by_cases hjk2 : j < k
        · exact hno.out j hj hjk2
        · have : j = k := by omega
          subst this
          rw [he]
          exact hf)
      have HYS := hid (show (kl key e0.1 && e0.2.has e0.2.r) = true → ∀ w', Below w.heap.size w w' → PP (.returned (.tuple #[.string e0.1, .bool true])) w' from fun ht w' hb => by
        have := FS.out k h1 hno.out (by rw [he]; exact ht) w' hb
        rw [he] at this
        exact this)
      clear CW he
      obtain ⟨kk, s⟩ := e0
      simp only at v0 v1 v2 v3 v4 v5 v6 RH HNX HYS C2
      generalize bit s.r = zr at v5 RH C2
      generalize bit s.w = zw at v6 RH C2
      generalize s.c0 = c0 at v1 RH C2
      generalize s.c1 = c1 at v2 RH C2
      generalize s.h0 = h0 at v3 RH C2
      generalize s.h1 = h1' at v4 RH C2
      cases hg : kl key kk
      · have b1 : (!Op.bytesLess kk.toList key.toList && !(kk.toList == key.toList)) = false := by rw [gtr_eq]; exact hg
        have N2 := hid (HNX.out (by rw [hg]; rfl))
        clear hg
        go_wp2_with fail
        go_roundw
        case rel => exact ⟨k + 1, by go_num, by omega, N2, hb⟩
        case measure => simp [intOf]; omega
      · have b1 : (!Op.bytesLess kk.toList key.toList && !(kk.toList == key.toList)) = true := by rw [gtr_eq]; exact hg
        cases hh : s.has s.r
        · have N2 := hid (HNX.out (by rw [hh]; simp))
          rw [hh] at RH
          clear hg hh
          go_wp2_with (
            go_at_call 65
            refine (RH.out wr).mono ?_
            rintro e w2 ⟨rfl, hb2⟩
            have B2 := hid (below_on hb.out hb2)
            clear hb2)
          go_roundw
          case rel => exact ⟨k + 1, by go_num, by omega, N2, B2⟩
          case measure => simp [intOf]; omega
        · have Y2 := hid (HYS.out (by rw [hg, hh]; rfl))
          rw [hh] at RH
          clear hg hh
          go_wp2_with (
            go_at_call 65
            refine (RH.out wr).mono ?_
            rintro e w2 ⟨rfl, hb2⟩
            have B2 := hid (below_on (below_on B0.out hb.out) hb2)
            have u0 := (cells2 (hp_below (hp_below HX.out hb.out (hp_lt HX.out)) hb2 (Nat.lt_of_lt_of_le (hp_lt HX.out) hb.out.size))).1
            have x0 := (C2.out w2 B2.out).1
            clear hb2)
          exact Y2.out _ B2.out
    · have N2 := hid (FN.out (fun j hj => hno.out j hj (by omega)))
      have h1' : ¬ (k : Int) < l.length := by omega
      go_wp2
      exact N2.out _ (below_on B0.out hb.out)

end Go.Proofs.Ythjggbcppgbdoaa

namespace Go.Proofs.Ythjggbcppgbdoaa
open Go.RowKit

set_option maxRecDepth 100000 in
set_option maxHeartbeats 800000 in
theorem znew_any (w : World) : Calls Try.prog 11 #[] w fun x w' => x = .returned (.pointer (some ⟨w.heap.size, 0, none⟩)) ∧ ZS w' w.heap.size .nil (fun _ => s0) 0 false ∧ Below w.heap.size w w' ∧ w'.heap.size = w.heap.size + 1 := by
  go_enter Try.func11, Try.ntmps11
  go_wp2
  go_ret
  exact ⟨rfl, ⟨⟨hp_new w _, trivial, List.Pairwise.nil, List.Pairwise.nil⟩, fun e he => (by cases he), List.Pairwise.nil, fun e he => (by cases he)⟩, below_new _ _, by simp⟩

set_option maxRecDepth 100000 in
set_option maxHeartbeats 800000 in
theorem zlen_any (p : Nat) (t : Tr) (f : Nat → Sd) (c : Int) (m : Bool) (w : World) (h : ZS w p t f c m) : Calls Try.prog 24 #[.pointer (some ⟨p, 0, none⟩)] w fun x w' => x = .returned (.int .i64 c) ∧ w' = w := by
  obtain ⟨y0, y1, y2, y3⟩ := cells4 h.tb.blk
  clear h
  go_enter Try.func24, Try.ntmps24
  go_wp2
  go_ret
  exact ⟨rfl, rfl⟩

set_option maxRecDepth 100000 in
set_option maxHeartbeats 800000 in
theorem zmarked_any (p : Nat) (t : Tr) (f : Nat → Sd) (c : Int) (m : Bool) (w : World) (h : ZS w p t f c m) : Calls Try.prog 25 #[.pointer (some ⟨p, 0, none⟩)] w fun x w' => x = .returned (.bool m) ∧ w' = w := by
  obtain ⟨y0, y1, y2, y3⟩ := cells4 h.tb.blk
  clear h
  go_enter Try.func25, Try.ntmps25
  go_wp2
  go_ret
  exact ⟨rfl, rfl⟩

/-- Of no store. -/
theorem znil_len (w : World) : Calls Try.prog 24 #[.pointer none] w fun x w' => x = .returned (.int .i64 0) ∧ w' = w := by
  go_enter Try.func24, Try.ntmps24
  go_wp2
  go_ret
  exact ⟨rfl, rfl⟩
theorem znil_marked (w : World) : Calls Try.prog 25 #[.pointer none] w fun x w' => x = .returned (.bool false) ∧ w' = w := by
  go_enter Try.func25, Try.ntmps25
  go_wp2
  go_ret
  exact ⟨rfl, rfl⟩
theorem znil_put (key : ByteArray) (v : Int) (w : World) : Calls Try.prog 16 #[.pointer none, .string key, .int .i64 v] w fun x w' => x = .returned (.tuple #[]) ∧ w' = w := by
  go_enter Try.func16, Try.ntmps16
  go_wp2
  refine bodyPost_ret (results_none rfl _ _ _) rfl ?_
  exact ⟨rfl, rfl⟩
theorem znil_mark (w : World) : Calls Try.prog 26 #[.pointer none] w fun x w' => x = .returned (.int .i64 1) ∧ w' = w := by
  go_enter Try.func26, Try.ntmps26
  go_wp2
  go_ret
  exact ⟨rfl, rfl⟩

end Go.Proofs.Ythjggbcppgbdoaa

namespace Go.Proofs.Ythjggbcppgbdoaa
open Go.RowKit

theorem Try.info84 : (Try.prog.info? 84).map (fun i => (i.zero, i.size, i.bytes)) = some (some (.agg #[.string ⟨#[]⟩, .int .i64 0, .int .i64 0, .bool false, .bool false, .int .i64 0, .int .i64 0]), 7, 56) := by kernel_rfl

theorem plC_one (e : Pl) : ∀ u ∈ plC e, u.oneCell' = true := by
  intro u hu
  simp [plC] at hu
  rcases hu with rfl | rfl | rfl | rfl | rfl | rfl | rfl <;> rfl
theorem pl_flat_one (l : List Pl) : ∀ u ∈ l.flatMap plC, u.oneCell' = true := by
  intro u hu
  obtain ⟨e, _, he⟩ := List.mem_flatMap.1 hu
  exact plC_one e u he

theorem rl_take {w : World} {l : List Pl} {g off cap : Nat} (h : Rl w (.slice (some ⟨g, off, none⟩) l.length cap) l) (i : Nat) (hi : i ≤ l.length) (hc : l.length ≤ cap) (hm : cap ≤ maxLen) : Rf w 7 (.slice (some ⟨g, off, none⟩) i cap) i ((l.take i).flatMap plC) := by
  refine ⟨by rw [flat_len plC 7 plC_len]; simp; omega, pl_flat_one _, .inr ⟨_, cap, rfl, by omega, hm, fun j u hu => ?_⟩⟩
  have e : l.flatMap plC = (l.take i).flatMap plC ++ (l.drop i).flatMap plC := by rw [← List.flatMap_append, List.take_append_drop]
  have hj : j < ((l.take i).flatMap plC).length := by
    rcases Nat.lt_or_ge j ((l.take i).flatMap plC).length with h | h
    · exact h
    · rw [List.getElem?_eq_none h] at hu; cases hu
  rw [flat_len plC 7 plC_len] at hj
  rcases Nat.eq_zero_or_pos l.length with h0 | h0
  · simp at hj; omega
  · obtain ⟨g2, o2, c2, e2, -, -, hcell⟩ := h.lits h0 (by omega)
    injection e2 with e3 _ _
    injection e3 with e3
    injection e3 with e3 e4
    subst e3 e4
    rw [add_lit]
    refine hcell j u ?_
    rw [e, List.getElem?_append_left (by rw [flat_len plC 7 plC_len]; exact hj)]
    exact hu

theorem rl_drop {w : World} {l : List Pl} {g off cap : Nat} (h : Rl w (.slice (some ⟨g, off, none⟩) l.length cap) l) (i : Nat) (hi : i ≤ l.length) (hc : l.length ≤ cap) (hm : cap ≤ maxLen) : Rf w 7 (.slice (some ⟨g, off + i * 7, none⟩) (l.length - i) (cap - i)) (l.length - i) ((l.drop i).flatMap plC) := by
  refine ⟨by rw [flat_len plC 7 plC_len]; simp, pl_flat_one _, .inr ⟨_, cap - i, rfl, by omega, by omega, fun j u hu => ?_⟩⟩
  have e : l.flatMap plC = (l.take i).flatMap plC ++ (l.drop i).flatMap plC := by rw [← List.flatMap_append, List.take_append_drop]
  have hl : ((l.take i).flatMap plC).length = i * 7 := by rw [flat_len plC 7 plC_len]; simp; omega
  have hj : j < ((l.drop i).flatMap plC).length := by
    rcases Nat.lt_or_ge j ((l.drop i).flatMap plC).length with h | h
    · exact h
    · rw [List.getElem?_eq_none h] at hu; cases hu
  rw [flat_len plC 7 plC_len] at hj
  rcases Nat.eq_zero_or_pos l.length with h0 | h0
  · simp at hj; omega
  · obtain ⟨g2, o2, c2, e2, -, -, hcell⟩ := h.lits h0 (by omega)
    injection e2 with e3 _ _
    injection e3 with e3
    injection e3 with e3 e4
    subst e3 e4
    rw [add_lit]
    have := hcell (i * 7 + j) u (by rw [e, List.getElem?_append_right (by omega), hl, show i * 7 + j - i * 7 = j by omega]; exact hu)
    rw [← Nat.add_assoc] at this
    exact this

theorem rf_pl (w : World) (e : Pl) : Rf (w.alloc (.cells #[.string e.1, .int .i64 e.2.c0, .int .i64 e.2.c1, .bool e.2.h0, .bool e.2.h1, .int .i64 (bit e.2.r), .int .i64 (bit e.2.w)] 84)) 7 (.slice (some ⟨w.heap.size, 0, none⟩) 1 1) 1 (plC e) := by
  refine ⟨rfl, plC_one e, .inr ⟨_, _, rfl, Nat.le_refl _, by unfold maxLen; omega, fun j u hu => ?_⟩⟩
  rw [add_lit, Nat.zero_add]
  rw [cell_of_row _ w.heap.size _ _ _ _ (hp_new w _)]
  have : (#[Value.string e.1, .int .i64 e.2.c0, .int .i64 e.2.c1, .bool e.2.h0, .bool e.2.h1, .int .i64 (bit e.2.r), .int .i64 (bit e.2.w)] : Array Value)[j]? = some u := by
    have h2 : (plC e)[j]? = some u := hu
    simpa [plC] using h2
  exact this

end Go.Proofs.Ythjggbcppgbdoaa

namespace Go.Proofs.Ythjggbcppgbdoaa
open Go.RowKit

abbrev plA (e : Pl) : Array Value := #[.string e.1, .int .i64 e.2.c0, .int .i64 e.2.c1, .bool e.2.h0, .bool e.2.h1, .int .i64 (bit e.2.r), .int .i64 (bit e.2.w)]
abbrev wiW (w : World) (v : Value) (m : Bool) (e : Pl) : World := ((w.alloc (.cells #[v, .bool m] 34)).alloc (.cells (plA e) 84)).alloc (.cells #[.slice none 0 0, .bool false] 34)
theorem wiW_below (w : World) (v : Value) (m : Bool) (e : Pl) : Below w.heap.size w (wiW w v m e) := ((below_new _ _).alloc (by simp) _).alloc (by simp; omega) _
theorem wiW_size (w : World) (v : Value) (m : Bool) (e : Pl) : (wiW w v m e).heap.size = w.heap.size + 3 := by simp [wiW]

set_option maxRecDepth 100000 in
theorem load_agg34 {w : World} {r : Nat} {a b : Value} (hb : w.heap[r]? = some (.cells #[a, b] 34 (0, 0))) : (loadVar 34 ⟨r, 0, none⟩).run Try.prog w = .ok (.agg #[a, b]) w := by
  obtain ⟨c0, c1⟩ := cells2 hb
  simp [go_sem, c0, c1]
theorem ret_agg34 {fn : Func} {p : Tmp} (h : fn.results = #[.cell p 34]) {tmps : Array Value} {r : Nat} {w : World} {a b : Value} (ht : tmps.getD p undef = .pointer (some ⟨r, 0, none⟩)) (hb : w.heap[r]? = some (.cells #[a, b] 34 (0, 0))) :
    (results fn tmps).run Try.prog w = .ok (.agg #[a, b]) w := by
  have ht2 := ht
  simp only [Array.getD_eq_getD_getElem?] at ht2
  simp only [results, h]
  simp [ht2, load_agg34 hb, asAddr]
theorem set2 {w : World} {r : Nat} {a b : Value} {t : TypeId} (h : w.heap[r]? = some (.cells #[a, b] t (0, 0))) (x y : Value) :
    ((w.setCell ⟨r, 0, none⟩ x).setCell ⟨r, 1, none⟩ y).heap[r]? = some (.cells #[x, y] t (0, 0)) := by
  simp [World.setCell, Array.getElem?_modify, h]

/-- Behind an append. -/
structure Wi (w : World) (v : Value) (m : Bool) (e : Pl) (w1 : World) (u : Value) (n : Nat) (xs : List Value) : Prop where
  ow : w1.ownsRow (wiW w v m e).heap.size 84 7 u n xs
  bl : Below (wiW w v m e).heap.size (wiW w v m e) w1

theorem Wi.step {w : World} {v : Value} {m : Bool} {e : Pl} {w1 w2 W1 : World} {u u2 : Value} {n n2 : Nat} {xs xs2 : List Value} (h : Wi w v m e w1 u n xs) (hb : Below w1.heap.size w1 W1) (ho : w2.ownsRow (wiW w v m e).heap.size 84 7 u2 n2 xs2) (hg : W1.grownBy w2 u.ownBlock) : Wi w v m e w2 u2 n2 xs2 := by
  refine ⟨ho, ?_⟩
  have K : Kept (fun j => u.ownBlock = some j) W1 w2 := (Kept.refl (fun j => u.ownBlock = some j) W1).grown hg (fun _ _ e => e)
  have hs := h.bl.size
  exact (h.bl.trans (hb.mono hs)).trans (K.below (Nat.le_trans hs hb.size) (fun k hk e => by have := (h.ow.lt k e).1; omega))

structure WiB (w : World) (v : Value) (m : Bool) (e : Pl) (w1 : World) : Prop where
  s : w1.heap[w.heap.size]? = some (.cells #[v, .bool m] 34 (0, 0))
  p : w1.heap[w.heap.size + 1]? = some (.cells (plA e) 84 (0, 0))
  r : w1.heap[w.heap.size + 2]? = some (.cells #[.slice none 0 0, .bool false] 34 (0, 0))
  bl : Below w.heap.size w w1

theorem wib {w : World} {v : Value} {m : Bool} {e : Pl} {w1 : World} (hb : Below (wiW w v m e).heap.size (wiW w v m e) w1) : WiB w v m e w1 := by
  have hz := wiW_size w v m e
  have hb' := hb
  rw [hz] at hb'
  refine ⟨hp_below (?_ : (wiW w v m e).heap[w.heap.size]? = _) hb' (by omega), hp_below (?_ : (wiW w v m e).heap[w.heap.size + 1]? = _) hb' (by omega), hp_below (?_ : (wiW w v m e).heap[w.heap.size + 2]? = _) hb' (by omega), below_on (wiW_below w v m e) hb⟩
  · exact hp_alloc (hp_alloc (hp_new _ _) _) _
  · have := hp_alloc (hp_new (w.alloc (.cells #[v, .bool m] 34)) (.cells (plA e) 84)) (.cells #[.slice none 0 0, .bool false] 34)
    simpa using this
  · have := hp_new ((w.alloc (.cells #[v, .bool m] 34)).alloc (.cells (plA e) 84)) (.cells #[.slice none 0 0, .bool false] 34)
    simpa using this

def WiP (l : List Pl) (j : Nat) (i : Nat) (e : Pl) (m : Bool) (w : World) : Ending → World → Prop := fun x w' => ∃ v', x = .returned (.agg #[v', .bool m]) ∧ Rl w' v' (l.take i ++ e :: l.drop j) ∧ Below w.heap.size w w'

theorem wi_fin {l : List Pl} {i j : Nat} {e : Pl} {m : Bool} {w w3 : World} {v u : Value} {n : Nat} (h : Wi w v m e w3 u n ((l.take i).flatMap plC ++ plC e ++ (l.drop j).flatMap plC)) (hi : i ≤ l.length) (_hj : j ≤ l.length) (hn : n = i + 1 + (l.length - j)) :
    WiP l j i e m w (.returned (.agg #[u, .bool m])) (((w3.setCell ⟨w.heap.size, 0, none⟩ u).setCell ⟨w.heap.size + 2, 0, none⟩ u).setCell ⟨w.heap.size + 2, 1, none⟩ (.bool m)) := by
  have hz := wiW_size w v m e
  have B := wib h.bl
  have K : Kept (fun k => k = w.heap.size ∨ k = w.heap.size + 2) w3 (((w3.setCell ⟨w.heap.size, 0, none⟩ u).setCell ⟨w.heap.size + 2, 0, none⟩ u).setCell ⟨w.heap.size + 2, 1, none⟩ (.bool m)) :=
    (((Kept.refl (fun k => k = w.heap.size ∨ k = w.heap.size + 2) w3).setCell (p := ⟨w.heap.size, 0, none⟩) (fun _ => .inl rfl) _).setCell (p := ⟨w.heap.size + 2, 0, none⟩) (fun _ => .inr rfl) _).setCell (p := ⟨w.heap.size + 2, 1, none⟩) (fun _ => .inr rfl) _
  have ho := ownsRow_kept h.ow K (fun k hk e => by have := (h.ow.lt k hk).1; omega)
  refine ⟨u, rfl, ?_, B.bl.trans (K.below B.bl.size (fun k hk e => by omega))⟩
  have e1 : (l.take i ++ e :: l.drop j).flatMap plC = (l.take i).flatMap plC ++ plC e ++ (l.drop j).flatMap plC := by simp [List.flatMap_append, List.flatMap_cons]
  have e2 : (l.take i ++ e :: l.drop j).length = n := by simp; omega
  show Rf _ 7 u (l.take i ++ e :: l.drop j).length _
  rw [e1, e2]
  refine rf_of_owns ho (fun x hx => ?_)
  rw [← e1] at hx
  exact pl_flat_one _ x hx

theorem cells7 {w : World} {p : Nat} {a b c d e f g : Value} {t : TypeId} (h : w.heap[p]? = some (.cells #[a, b, c, d, e, f, g] t (0, 0))) : w.cell? ⟨p, 0, none⟩ = some a ∧ w.cell? ⟨p, 1, none⟩ = some b ∧ w.cell? ⟨p, 2, none⟩ = some c ∧ w.cell? ⟨p, 3, none⟩ = some d ∧ w.cell? ⟨p, 4, none⟩ = some e ∧ w.cell? ⟨p, 5, none⟩ = some f ∧ w.cell? ⟨p, 6, none⟩ = some g := by
  refine ⟨?_, ?_, ?_, ?_, ?_, ?_, ?_⟩ <;> (rw [cell_of_row w p _ _ _ _ h]; rfl)

set_option maxRecDepth 100000 in
set_option maxHeartbeats 8000000 in
theorem rwith0_mid (v : Value) (m : Bool) (l : List Pl) (i : Nat) (e : Pl) (w : World) (h : Rl w v l) (hi : i < l.length) (hl : l.length ≤ 1000000) :
    Calls Try.prog 64 #[.agg #[v, .bool m], .int .i64 i, .int .i64 0, .agg (plA e)] w (WiP l (i) i e m w) := by
  obtain ⟨g, off, cap, rfl, hc, hm, -⟩ := h.lits (by omega) (by omega)
  have R1 := hid (rl_take (h.below (wiW_below w (.slice (some ⟨g, off, none⟩) l.length cap) m e)) i (by omega) hc hm)
  have R3 := hid (fun w2 (hb : Below w.heap.size w w2) => rl_drop (h.below hb) (i) (by omega) hc hm)
  have W0 := hid (show Wi w (.slice (some ⟨g, off, none⟩) l.length cap) m e (wiW w (.slice (some ⟨g, off, none⟩) l.length cap) m e) (.slice none 0 0) 0 [] from ⟨World.ownsRow_nil _ _ _ _, Below.refl _ _⟩)
  have B0 := hid (wib (Below.refl (wiW w (.slice (some ⟨g, off, none⟩) l.length cap) m e).heap.size _))
  obtain ⟨b0, b1⟩ := cells2 B0.out.s
  have hil : i ≤ cap := by omega
  generalize hP : WiP l (i) i e m w = PP
  have HP := hid hP
  clear h hP
  go_enter Try.func64, Try.ntmps64
  go_wp2_with (first
    | (at_builtin
       refine wpList_append_rf (wiW w (.slice (some ⟨g, off, none⟩) l.length cap) m e) rfl (.tmp 10) (.tmp 14) 32 84 _ 7 56 rfl Try.underlying32 Try.info84 rfl (by omega) (wiW w (.slice (some ⟨g, off, none⟩) l.length cap) m e).heap.size (.slice none 0 0) 0 [] rfl (World.ownsRow_nil _ _ _ _) (.slice (some ⟨g, off, none⟩) i cap) (i) ((l.take i).flatMap plC) rfl R1.out (by omega) (by unfold maxLen; omega) (Nat.le_refl _) ?_
       intro a1 q1 w1 ho1 hg1 hat1
       simp only [Nat.zero_add, List.nil_append] at ho1
       have Z1 := hid (W0.out.step (Below.refl _ _) ho1.out hg1.out)
       have X1 := hid (wib Z1.out.bl)
       obtain ⟨y0, y1⟩ := cells2 X1.out.s
       obtain ⟨p0, p1, p2, p3, p4, p5, p6⟩ := cells7 X1.out.p
       clear ho1 hg1 hat1)
    | (at_builtin
       refine wpList_append_rf (w1.alloc (.cells (plA e) 84)) rfl (.tmp 16) (.tmp 18) 32 84 _ 7 56 rfl Try.underlying32 Try.info84 rfl (by omega) (wiW w (.slice (some ⟨g, off, none⟩) l.length cap) m e).heap.size _ _ _ rfl (Z1.out.ow.alloc _) (.slice (some ⟨w1.heap.size, 0, none⟩) 1 1) 1 (plC e) rfl (rf_pl w1 e) (by omega) (by unfold maxLen; omega) (Nat.le_trans Z1.out.bl.size (by simp)) ?_
       intro a2 q2 w2 ho2 hg2 hat2
       have Z2 := hid (Z1.out.step (below_new _ _) ho2.out hg2.out)
       have X2 := hid (wib Z2.out.bl)
       obtain ⟨x0, x1⟩ := cells2 X2.out.s
       clear ho2 hg2 hat2)
    | (at_builtin
       refine wpList_append_rf w2 rfl (.tmp 20) (.tmp 26) 32 84 _ 7 56 rfl Try.underlying32 Try.info84 rfl (by omega) (wiW w (.slice (some ⟨g, off, none⟩) l.length cap) m e).heap.size _ _ _ rfl Z2.out.ow (.slice (some ⟨g, off + (i) * 7, none⟩) (l.length - (i)) (cap - (i))) (l.length - (i)) ((l.drop (i)).flatMap plC) rfl (R3.out w2 X2.out.bl) (by omega) (by unfold maxLen; omega) Z2.out.bl.size ?_
       intro a3 q3 w3 ho3 hg3 hat3
       have Z3 := hid (Z2.out.step (Below.refl _ _) ho3.out hg3.out)
       have X3 := hid (wib Z3.out.bl)
       obtain ⟨u0, u1⟩ := cells2 X3.out.s
       obtain ⟨r0, r1⟩ := cells2 X3.out.r
       have ff : ∀ j, w3.frozen? ⟨w.heap.size, j, none⟩ = false := fun j => free_of_block X3.out.s
       have fr : ∀ j, w3.frozen? ⟨w.heap.size + 2, j, none⟩ = false := fun j => free_of_block X3.out.r
       clear ho3 hg3 hat3))
  refine bodyPost_ret (ret_agg34 Try.results64 rfl (set2 (hp_set X3.out.r (by show w.heap.size + 2 ≠ w.heap.size; omega) _) _ _)) rfl ?_
  rw [← HP.out]
  exact wi_fin Z3.out (by omega) (by omega) (by omega)

set_option maxRecDepth 100000 in
set_option maxHeartbeats 8000000 in
theorem rwith1_mid (v : Value) (m : Bool) (l : List Pl) (i : Nat) (e : Pl) (w : World) (h : Rl w v l) (hi : i + 1 < l.length) (hl : l.length ≤ 1000000) :
    Calls Try.prog 64 #[.agg #[v, .bool m], .int .i64 i, .int .i64 1, .agg (plA e)] w (WiP l (i + 1) i e m w) := by
  obtain ⟨g, off, cap, rfl, hc, hm, -⟩ := h.lits (by omega) (by omega)
  have R1 := hid (rl_take (h.below (wiW_below w (.slice (some ⟨g, off, none⟩) l.length cap) m e)) i (by omega) hc hm)
  have R3 := hid (fun w2 (hb : Below w.heap.size w w2) => rl_drop (h.below hb) (i + 1) (by omega) hc hm)
  have W0 := hid (show Wi w (.slice (some ⟨g, off, none⟩) l.length cap) m e (wiW w (.slice (some ⟨g, off, none⟩) l.length cap) m e) (.slice none 0 0) 0 [] from ⟨World.ownsRow_nil _ _ _ _, Below.refl _ _⟩)
  have B0 := hid (wib (Below.refl (wiW w (.slice (some ⟨g, off, none⟩) l.length cap) m e).heap.size _))
  obtain ⟨b0, b1⟩ := cells2 B0.out.s
  have hil : i ≤ cap := by omega
  generalize hP : WiP l (i + 1) i e m w = PP
  have HP := hid hP
  clear h hP
  go_enter Try.func64, Try.ntmps64
  go_wp2_with (first
    | (at_builtin
       refine wpList_append_rf (wiW w (.slice (some ⟨g, off, none⟩) l.length cap) m e) rfl (.tmp 10) (.tmp 14) 32 84 _ 7 56 rfl Try.underlying32 Try.info84 rfl (by omega) (wiW w (.slice (some ⟨g, off, none⟩) l.length cap) m e).heap.size (.slice none 0 0) 0 [] rfl (World.ownsRow_nil _ _ _ _) (.slice (some ⟨g, off, none⟩) i cap) (i) ((l.take i).flatMap plC) rfl R1.out (by omega) (by unfold maxLen; omega) (Nat.le_refl _) ?_
       intro a1 q1 w1 ho1 hg1 hat1
       simp only [Nat.zero_add, List.nil_append] at ho1
       have Z1 := hid (W0.out.step (Below.refl _ _) ho1.out hg1.out)
       have X1 := hid (wib Z1.out.bl)
       obtain ⟨y0, y1⟩ := cells2 X1.out.s
       obtain ⟨p0, p1, p2, p3, p4, p5, p6⟩ := cells7 X1.out.p
       clear ho1 hg1 hat1)
    | (at_builtin
       refine wpList_append_rf (w1.alloc (.cells (plA e) 84)) rfl (.tmp 16) (.tmp 18) 32 84 _ 7 56 rfl Try.underlying32 Try.info84 rfl (by omega) (wiW w (.slice (some ⟨g, off, none⟩) l.length cap) m e).heap.size _ _ _ rfl (Z1.out.ow.alloc _) (.slice (some ⟨w1.heap.size, 0, none⟩) 1 1) 1 (plC e) rfl (rf_pl w1 e) (by omega) (by unfold maxLen; omega) (Nat.le_trans Z1.out.bl.size (by simp)) ?_
       intro a2 q2 w2 ho2 hg2 hat2
       have Z2 := hid (Z1.out.step (below_new _ _) ho2.out hg2.out)
       have X2 := hid (wib Z2.out.bl)
       obtain ⟨x0, x1⟩ := cells2 X2.out.s
       clear ho2 hg2 hat2)
    | (at_builtin
       refine wpList_append_rf w2 rfl (.tmp 20) (.tmp 26) 32 84 _ 7 56 rfl Try.underlying32 Try.info84 rfl (by omega) (wiW w (.slice (some ⟨g, off, none⟩) l.length cap) m e).heap.size _ _ _ rfl Z2.out.ow (.slice (some ⟨g, off + (i + 1) * 7, none⟩) (l.length - (i + 1)) (cap - (i + 1))) (l.length - (i + 1)) ((l.drop (i + 1)).flatMap plC) rfl (R3.out w2 X2.out.bl) (by omega) (by unfold maxLen; omega) Z2.out.bl.size ?_
       intro a3 q3 w3 ho3 hg3 hat3
       have Z3 := hid (Z2.out.step (Below.refl _ _) ho3.out hg3.out)
       have X3 := hid (wib Z3.out.bl)
       obtain ⟨u0, u1⟩ := cells2 X3.out.s
       obtain ⟨r0, r1⟩ := cells2 X3.out.r
       have ff : ∀ j, w3.frozen? ⟨w.heap.size, j, none⟩ = false := fun j => free_of_block X3.out.s
       have fr : ∀ j, w3.frozen? ⟨w.heap.size + 2, j, none⟩ = false := fun j => free_of_block X3.out.r
       clear ho3 hg3 hat3))
  refine bodyPost_ret (ret_agg34 Try.results64 rfl (set2 (hp_set X3.out.r (by show w.heap.size + 2 ≠ w.heap.size; omega) _) _ _)) rfl ?_
  rw [← HP.out]
  exact wi_fin Z3.out (by omega) (by omega) (by omega)

end Go.Proofs.Ythjggbcppgbdoaa
