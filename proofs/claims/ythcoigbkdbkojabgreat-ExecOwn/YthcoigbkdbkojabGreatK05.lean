import Derived.Test.YthcoigbkdbkojabGreatK04
set_option maxRecDepth 100000
namespace Go.Proofs.YthcoigbkdbkojabGreat.V
open Go.RowKit
structure Pd where
  n : Int
  a : Int
  ao : ByteArray
abbrev Pd.agg (p : Pd) : Value := .agg #[.int .i64 p.n, .int .i64 p.a, .string p.ao]
structure Sd where
  c0 : Pd
  c1 : Pd
  h0 : Bool
  h1 : Bool
  r : Bool
  w : Bool
def bit (b : Bool) : Int := if b then 1 else 0
def Sd.cells (s : Sd) : Array Value := #[.int .i64 s.c0.n, .int .i64 s.c0.a, .string s.c0.ao, .int .i64 s.c1.n, .int .i64 s.c1.a, .string s.c1.ao, .bool s.h0, .bool s.h1, .int .i64 (bit s.r), .int .i64 (bit s.w)]
def Sd.copy (s : Sd) (b : Bool) : Pd := if b then s.c1 else s.c0
def Sd.has (s : Sd) (b : Bool) : Bool := if b then s.h1 else s.h0
def Sd.lay (s : Sd) (v : Pd) (h : Bool) : Sd := if s.w then ⟨s.c0, v, s.h0, h, true, true⟩ else ⟨v, s.c1, h, s.h1, false, false⟩
abbrev Sl (w : World) (b : Nat) (s : Sd) : Prop := w.heap[b]? = some (.cells s.cells 121 (0, 0))
abbrev zB : Obj := .cells #[.int .i64 0, .int .i64 0, .string ⟨#[]⟩] 29
theorem cells10 {w : World} {p : Nat} {a b c d e f g i j k : Value} {t : TypeId} (h : w.heap[p]? = some (.cells #[a, b, c, d, e, f, g, i, j, k] t (0, 0))) : w.cell? ⟨p, 0, none⟩ = some a ∧ w.cell? ⟨p, 1, none⟩ = some b ∧ w.cell? ⟨p, 2, none⟩ = some c ∧ w.cell? ⟨p, 3, none⟩ = some d ∧ w.cell? ⟨p, 4, none⟩ = some e ∧ w.cell? ⟨p, 5, none⟩ = some f ∧ w.cell? ⟨p, 6, none⟩ = some g ∧ w.cell? ⟨p, 7, none⟩ = some i ∧ w.cell? ⟨p, 8, none⟩ = some j ∧ w.cell? ⟨p, 9, none⟩ = some k := by
  refine ⟨?_, ?_, ?_, ?_, ?_, ?_, ?_, ?_, ?_, ?_⟩ <;> (rw [cell_of_row w p _ _ _ _ h]; rfl)
theorem cells3 {w : World} {p : Nat} {a b c : Value} {t : TypeId} (h : w.heap[p]? = some (.cells #[a, b, c] t (0, 0))) : w.cell? ⟨p, 0, none⟩ = some a ∧ w.cell? ⟨p, 1, none⟩ = some b ∧ w.cell? ⟨p, 2, none⟩ = some c := by
  refine ⟨?_, ?_, ?_⟩ <;> (rw [cell_of_row w p _ _ _ _ h]; rfl)
theorem set3 {w : World} {r : Nat} {a b c : Value} {t : TypeId} (h : w.heap[r]? = some (.cells #[a, b, c] t (0, 0))) (x y z : Value) :
    (((w.setCell ⟨r, 0, none⟩ x).setCell ⟨r, 1, none⟩ y).setCell ⟨r, 2, none⟩ z).heap[r]? = some (.cells #[x, y, z] t (0, 0)) := by
  simp [World.setCell, Array.getElem?_modify, h]
theorem blw_set3 {B : Nat} {w w1 : World} {r : Nat} (h : Below B w w1) (hr : B ≤ r) (x y z : Value) : Below B w (((w1.setCell ⟨r, 0, none⟩ x).setCell ⟨r, 1, none⟩ y).setCell ⟨r, 2, none⟩ z) :=
  ((h.setCell (p := ⟨r, 0, none⟩) hr x).setCell (p := ⟨r, 1, none⟩) hr y).setCell (p := ⟨r, 2, none⟩) hr z
theorem load_aggV {w : World} {r : Nat} {a b c : Value} (hb : w.heap[r]? = some (.cells #[a, b, c] 29 (0, 0))) : (loadVar 29 ⟨r, 0, none⟩).run Tryz.prog w = .ok (.agg #[a, b, c]) w := by
  obtain ⟨c0, c1, c2⟩ := cells3 hb
  simp [go_sem, c0, c1, c2]
theorem ret_aggV {fn : Func} {p u : Tmp} (h : fn.results = #[.cell p 29, .tmp u]) {tmps : Array Value} {r : Nat} {w : World} {a b c x : Value} (ht : tmps.getD p undef = .pointer (some ⟨r, 0, none⟩)) (hq : tmps.getD u undef = x) (hb : w.heap[r]? = some (.cells #[a, b, c] 29 (0, 0))) :
    (results fn tmps).run Tryz.prog w = .ok (.tuple #[.agg #[a, b, c], x]) w := by
  have ht2 := ht
  have hq2 := hq
  simp only [Array.getD_eq_getD_getElem?] at ht2 hq2
  simp only [results, h]
  simp [ht2, hq2, load_aggV hb, asAddr]
theorem blw_drew {B : Nat} {w w' : World} (h : Below B w w') : Below B w w'.drew := ⟨h.os, h.tape, h.output, h.size, h.block⟩
theorem al_cell {w : World} {b : Nat} (h : b < w.heap.size) (ob : Obj) (j : Nat) : (w.alloc ob).cell? ⟨b, j, none⟩ = w.cell? ⟨b, j, none⟩ := World.cell?_of_block (Below.heap_alloc _ _ _ h)
def ReadP (w : World) (s : Sd) : Ending → World → Prop := fun x w' => x = .returned (.tuple #[(s.copy s.r).agg, .bool (s.has s.r)]) ∧ Below w.heap.size w w'
set_option maxHeartbeats 4000000 in
theorem read_any (b : Nat) (s : Sd) (w : World) (h : Sl w b s) : Calls Tryz.prog 46 #[.pointer (some ⟨b, 0, none⟩)] w (ReadP w s) := by
  have hlt := hp_lt h
  generalize hP : ReadP w s = PP
  have HP := hid hP
  obtain ⟨⟨n0, a0, o0⟩, ⟨n1, a1, o1⟩, h0, h1, r, wb⟩ := s
  obtain ⟨d0, d1, d2, d3, d4, d5, d6, d7, d8, d9⟩ := cells10 h
  clear h hP
  cases r
  · simp only [bit, Bool.false_eq_true, if_false] at d8
    go_enter Tryz.func46, Tryz.ntmps46
    go_wp2_with fail
    go_region_held3 (fun wx => wx.cell? ⟨b, 8, none⟩ = some (.int .i64 0) ∧ wx.cell? ⟨b, 6, none⟩ = some (.bool h0) ∧ wx.cell? ⟨b, 0, none⟩ = some (.int .i64 n0) ∧ wx.cell? ⟨b, 1, none⟩ = some (.int .i64 a0) ∧ wx.cell? ⟨b, 2, none⟩ = some (.string o0))
      (first | (simp only [dw_cell, al_cell hlt, d8, d6, d0, d1, d2, and_self]; done) | (go_keep; done))
      (fail)
    all_goals
      go_wp2
      rw [← HP.out]
      exact bodyPost_ret (ret_aggV Tryz.results46 rfl rfl (hp_new w _)) rfl ⟨rfl, blw_drew (below_new w _)⟩
  · simp only [bit, if_true] at d8
    go_enter Tryz.func46, Tryz.ntmps46
    go_wp2_with fail
    go_region_held3 (fun wx => wx.cell? ⟨b, 8, none⟩ = some (.int .i64 1) ∧ wx.cell? ⟨b, 7, none⟩ = some (.bool h1) ∧ wx.cell? ⟨b, 3, none⟩ = some (.int .i64 n1) ∧ wx.cell? ⟨b, 4, none⟩ = some (.int .i64 a1) ∧ wx.cell? ⟨b, 5, none⟩ = some (.string o1))
      (first | (simp only [dw_cell, al_cell hlt, d8, d7, d3, d4, d5, and_self]; done) | (go_keep; done))
      (fail)
    all_goals
      go_wp2
      rw [← HP.out]
      exact bodyPost_ret (ret_aggV Tryz.results46 rfl rfl (hp_new w _)) rfl ⟨rfl, blw_drew (below_new w _)⟩
theorem getV_nil (key : ByteArray) : getV key [] = .tuple #[.pointer none, .bool false] := rfl
set_option maxHeartbeats 2000000 in
theorem sat_any (o : Option Addr) (key : ByteArray) (t : Tr) (w : World) (u : Option Addr) (q : Bool) (ht : TO w o t) (hv : getV key t.toL = .tuple #[.pointer u, .bool q]) :
    Calls Tryz.prog 44 #[.pointer o, .string key] w fun x w' => x = .returned (.tuple #[.pointer u, .bool q]) ∧ Below w.heap.size w w' := by
  rcases ht with ⟨rfl, rfl⟩ | ⟨p, cm, rfl, ht⟩
  · have e : u = none ∧ q = false := by
      have : getV key [] = .tuple #[.pointer u, .bool q] := hv
      rw [getV_nil] at this
      simp at this
      exact ⟨this.1.symm, this.2⟩
    obtain ⟨rfl, rfl⟩ := e
    clear hv
    go_enter Tryz.func44, Tryz.ntmps44
    go_wp2
    go_ret2
    exact ⟨rfl, Below.refl _ _⟩
  · have G := hid (show Calls Tryz.prog 82 #[.pointer (some ⟨p, 0, none⟩), .string key] w fun x w' => x = .returned (.tuple #[.pointer u, .bool q]) ∧ Below w.heap.size w w' from hv ▸ get_any (some ⟨p, 0, none⟩) key t w (.inr ⟨p, cm, rfl, ht⟩))
    clear ht hv
    go_enter Tryz.func44, Tryz.ntmps44
    go_wp2_with (
      go_at_call 82
      refine G.out.mono ?_
      rintro e w1 ⟨rfl, hb⟩
      have HB := hid hb
      clear hb)
    go_ret2
    exact ⟨rfl, HB.out⟩
def LayP (w : World) (b : Nat) (s : Sd) (v : Pd) (h : Bool) : Ending → World → Prop := fun x w' => x = .returned (.tuple #[]) ∧ Sl w' b (s.lay v h) ∧ Kept (fun j => j = b) w w'
theorem set_lo {w : World} {r : Nat} {a b c d e f g i j k : Value} {t : TypeId} (h : w.heap[r]? = some (.cells #[a, b, c, d, e, f, g, i, j, k] t (0, 0))) (x y z u q : Value) :
    (((((w.setCell ⟨r, 0, none⟩ x).setCell ⟨r, 1, none⟩ y).setCell ⟨r, 2, none⟩ z).setCell ⟨r, 6, none⟩ u).setCell ⟨r, 8, none⟩ q).heap[r]? = some (.cells #[x, y, z, d, e, f, u, i, q, k] t (0, 0)) := by
  simp [World.setCell, Array.getElem?_modify, h]
theorem set_hi {w : World} {r : Nat} {a b c d e f g i j k : Value} {t : TypeId} (h : w.heap[r]? = some (.cells #[a, b, c, d, e, f, g, i, j, k] t (0, 0))) (x y z u q : Value) :
    (((((w.setCell ⟨r, 3, none⟩ x).setCell ⟨r, 4, none⟩ y).setCell ⟨r, 5, none⟩ z).setCell ⟨r, 7, none⟩ u).setCell ⟨r, 8, none⟩ q).heap[r]? = some (.cells #[a, b, c, x, y, z, g, u, q, k] t (0, 0)) := by
  simp [World.setCell, Array.getElem?_modify, h]
theorem hp_drew {w : World} {b : Nat} {o : Obj} (h : w.heap[b]? = some o) : w.drew.heap[b]? = some o := h
abbrev vB (v : Pd) : Obj := .cells #[.int .i64 v.n, .int .i64 v.a, .string v.ao] 29
theorem lay_fin {w : World} {b : Nat} {s : Sd} (hs : Sl w b s) (v : Pd) (h : Bool) : LayP w b s v h (.returned (.tuple #[])) (((((((w.alloc (vB v)).setCell ⟨b, if s.w then 3 else 0, none⟩ (.int .i64 v.n)).setCell ⟨b, if s.w then 4 else 1, none⟩ (.int .i64 v.a)).setCell ⟨b, if s.w then 5 else 2, none⟩ (.string v.ao)).setCell ⟨b, if s.w then 7 else 6, none⟩ (.bool h)).setCell ⟨b, 8, none⟩ (.int .i64 (bit s.w))).drew) := by
  have hs1 := hp_below hs (below_new w (vB v)) (hp_lt hs)
  have hk1 : Kept (fun j => j = b) w (w.alloc (vB v)) := (Kept.ofBelow (below_new w (vB v))).mono (fun _ _ e => e.elim)
  generalize w.alloc (vB v) = w1 at hs1 hk1 ⊢
  clear hs
  obtain ⟨c0, c1, h0, h1, r, wb⟩ := s
  cases wb
  · have hs2 : w1.heap[b]? = some (.cells #[.int .i64 c0.n, .int .i64 c0.a, .string c0.ao, .int .i64 c1.n, .int .i64 c1.a, .string c1.ao, .bool h0, .bool h1, .int .i64 (bit r), .int .i64 0] 121 (0, 0)) := hs1
    simp only [Bool.false_eq_true, if_false]
    have e := set_lo hs2 (.int .i64 v.n) (.int .i64 v.a) (.string v.ao) (.bool h) (.int .i64 (bit false))
    exact ⟨rfl, hp_drew (e.trans rfl), (((((hk1.setCell (p := ⟨b, 0, none⟩) (fun _ => rfl) _).setCell (p := ⟨b, 1, none⟩) (fun _ => rfl) _).setCell (p := ⟨b, 2, none⟩) (fun _ => rfl) _).setCell (p := ⟨b, 6, none⟩) (fun _ => rfl) _).setCell (p := ⟨b, 8, none⟩) (fun _ => rfl) _).drew⟩
  · have hs2 : w1.heap[b]? = some (.cells #[.int .i64 c0.n, .int .i64 c0.a, .string c0.ao, .int .i64 c1.n, .int .i64 c1.a, .string c1.ao, .bool h0, .bool h1, .int .i64 (bit r), .int .i64 1] 121 (0, 0)) := hs1
    simp only [if_true]
    have e := set_hi hs2 (.int .i64 v.n) (.int .i64 v.a) (.string v.ao) (.bool h) (.int .i64 (bit true))
    exact ⟨rfl, hp_drew (e.trans rfl), (((((hk1.setCell (p := ⟨b, 3, none⟩) (fun _ => rfl) _).setCell (p := ⟨b, 4, none⟩) (fun _ => rfl) _).setCell (p := ⟨b, 5, none⟩) (fun _ => rfl) _).setCell (p := ⟨b, 7, none⟩) (fun _ => rfl) _).setCell (p := ⟨b, 8, none⟩) (fun _ => rfl) _).drew⟩
set_option maxHeartbeats 4000000 in
theorem lay_any (b : Nat) (s : Sd) (v : Pd) (h : Bool) (w : World) (hs : Sl w b s) : Calls Tryz.prog 47 #[.pointer (some ⟨b, 0, none⟩), v.agg, .bool h] w (LayP w b s v h) := by
  have FI := hid (lay_fin hs v h)
  have hs1 := hp_below hs (below_new w (vB v)) (hp_lt hs)
  have hne : b ≠ w.heap.size := by have := hp_lt hs; omega
  have ff : ∀ j, (w.alloc (vB v)).frozen? ⟨b, j, none⟩ = false := fun j => free_of_block hs1
  generalize hP : LayP w b s v h = PP at FI ⊢
  obtain ⟨v0, v1, v2⟩ := cells3 (hp_new w (vB v))
  obtain ⟨c0, c1, h0, h1, r, wb⟩ := s
  obtain ⟨n, a, o⟩ := v
  obtain ⟨d0, d1, d2, d3, d4, d5, d6, d7, d8, d9⟩ := cells10 hs1
  clear hs hs1 hP
  cases wb
  · simp only [bit, Bool.false_eq_true, if_false] at d9 FI
    go_enter Tryz.func47, Tryz.ntmps47
    go_wp2_with fail
    go_region_held3 (fun wx => wx.cell? ⟨b, 9, none⟩ = some (.int .i64 0) ∧ wx.cell? ⟨w.heap.size, 0, none⟩ = some (.int .i64 n) ∧ wx.cell? ⟨w.heap.size, 1, none⟩ = some (.int .i64 a) ∧ wx.cell? ⟨w.heap.size, 2, none⟩ = some (.string o))
      (first | (simp only [dw_cell, cs_off (show (0 : Nat) ≠ 9 by decide), cs_off (show (1 : Nat) ≠ 9 by decide), cs_off (show (2 : Nat) ≠ 9 by decide), cs_off (show (6 : Nat) ≠ 9 by decide), cs_blk hne, d9, v0, v1, v2, and_self]; done) | (go_keep; done))
      (fail)
    all_goals
      go_wp2
      first | exact FI.out | (go_end0; exact FI.out)
  · simp only [bit, if_true] at d9 FI
    go_enter Tryz.func47, Tryz.ntmps47
    go_wp2_with fail
    go_region_held3 (fun wx => wx.cell? ⟨b, 9, none⟩ = some (.int .i64 1) ∧ wx.cell? ⟨w.heap.size, 0, none⟩ = some (.int .i64 n) ∧ wx.cell? ⟨w.heap.size, 1, none⟩ = some (.int .i64 a) ∧ wx.cell? ⟨w.heap.size, 2, none⟩ = some (.string o))
      (first | (simp only [dw_cell, cs_off (show (3 : Nat) ≠ 9 by decide), cs_off (show (4 : Nat) ≠ 9 by decide), cs_off (show (5 : Nat) ≠ 9 by decide), cs_off (show (7 : Nat) ≠ 9 by decide), cs_blk hne, d9, v0, v1, v2, and_self]; done) | (go_keep; done))
      (fail)
    all_goals
      go_wp2
      first | exact FI.out | (go_end0; exact FI.out)
structure ZS (w : World) (p : Nat) (t : Tr) (f : Nat → Sd) (c : Int) (m : Bool) : Prop where
  tb : Tb (.int .i64 c, .bool m) w p t
  sl : ∀ e ∈ t.toL, ∃ b, e.2.2 = .pointer (some ⟨b, 0, none⟩) ∧ Sl w b (f b)
  nd : (t.toL.map (fun e => e.2.2)).Nodup
  sh : ∀ e ∈ t.toL, e.2.1.size ≤ 281474976710656
def zPd : Pd := ⟨0, 0, ⟨#[]⟩⟩
def zget (key : ByteArray) (f : Nat → Sd) (l : List En) : Pd × Bool := match ent key l with
  | some e => (match e.2.2 with | .pointer (some a) => ((f a.block).copy (f a.block).r, (f a.block).has (f a.block).r) | _ => (zPd, false))
  | none => (zPd, false)
def GetP (w : World) (r : Pd × Bool) : Ending → World → Prop := fun x w' => x = .returned (.tuple #[r.1.agg, .bool r.2]) ∧ Below w.heap.size w w'
set_option maxHeartbeats 4000000 in
theorem sget_any (p : Nat) (key : ByteArray) (t : Tr) (f : Nat → Sd) (c : Int) (m : Bool) (w : World) (h : ZS w p t f c m) :
    Calls Tryz.prog 30 #[.pointer (some ⟨p, 0, none⟩), .string key] w (GetP w (zget key f t.toL)) := by
  have hz1 : TO (w.alloc zB) (some ⟨p, 0, none⟩) t := .inr ⟨p, _, rfl, h.tb.below (below_new w zB)⟩
  generalize hP : GetP w (zget key f t.toL) = PP
  have hB1 := hid (hp_new w zB)
  have hB2 := hid (below_new w zB)
  cases hq : ent key t.toL with
  | none =>
    have AT := hid (sat_any (some ⟨p, 0, none⟩) key t (w.alloc zB) none false hz1 (by rw [getV, hq]))
    have e : zget key f t.toL = (zPd, false) := by unfold zget; rw [hq]
    rw [e] at hP
    have HP := hid hP
    clear h hq e hP hz1
    go_enter Tryz.func30, Tryz.ntmps30
    go_wp2_with (
      go_at_call 44
      refine AT.out.mono ?_
      rintro e w1 ⟨rfl, hb⟩
      have HB := hid hb
      have y := hp_below hB1.out hb (hp_lt hB1.out)
      have hlt := hp_lt y
      obtain ⟨y0, y1, y2⟩ := cells3 y
      have yf : ∀ j, w1.frozen? ⟨w.heap.size, j, none⟩ = false := fun j => free_of_block y
      have Y := hid y
      clear hb y)
    rw [← HP.out]
    exact bodyPost_ret (ret_aggV Tryz.results30 rfl rfl (hp_alloc (set3 Y.out _ _ _) _)) rfl ⟨rfl, (blw_set3 (below_on hB2.out HB.out) (Nat.le_refl _) _ _ _).alloc (by simp; omega) _⟩
  | some e0 =>
    obtain ⟨b, hb, hs⟩ := h.sl e0 (ent_some hq).1
    have AT := hid (sat_any (some ⟨p, 0, none⟩) key t (w.alloc zB) (some ⟨b, 0, none⟩) true hz1 (by rw [getV, hq]; show Value.tuple #[e0.2.2, .bool true] = _; rw [hb]))
    have e : zget key f t.toL = ((f b).copy (f b).r, (f b).has (f b).r) := by unfold zget; rw [hq]; simp only [hb]
    rw [e] at hP
    have RD := hid (fun w1 (hb1 : Below (w.alloc zB).heap.size (w.alloc zB) w1) => read_any b (f b) w1 (hp_below (hp_below hs (below_new w zB) (hp_lt hs)) hb1 (by have := hp_lt hs; simp; omega)))
    generalize hv : (f b).copy (f b).r = v at hP
    generalize hhs : (f b).has (f b).r = q at hP
    obtain ⟨n, a, o⟩ := v
    have RD2 := hid (show ∀ w1, Below (w.alloc zB).heap.size (w.alloc zB) w1 → Calls Tryz.prog 46 #[.pointer (some ⟨b, 0, none⟩)] w1 fun x w' => x = .returned (.tuple #[.agg #[.int .i64 n, .int .i64 a, .string o], .bool q]) ∧ Below w1.heap.size w1 w' from fun w1 h1 => (RD.out w1 h1).mono (by
      rintro x w' ⟨rfl, hb⟩
      exact ⟨by rw [hv, hhs], hb⟩))
    have HP := hid hP
    clear h hq e hb hs hP hz1 hv
    clear hhs RD
    go_enter Tryz.func30, Tryz.ntmps30
    go_wp2_with (first
      | (go_at_call 44
         refine AT.out.mono ?_
         rintro e w1 ⟨rfl, hb⟩
         have HB := hid hb
         clear hb)
      | (go_at_call 46
         refine (RD2.out w1 HB.out).mono ?_
         rintro e w2 ⟨rfl, hb2⟩
         have HB2 := hid hb2
         have y := hp_below (hp_below hB1.out HB.out (hp_lt hB1.out)) hb2 (hp_lt (hp_below hB1.out HB.out (hp_lt hB1.out)))
         have hlt := hp_lt y
         obtain ⟨y0, y1, y2⟩ := cells3 y
         have yf : ∀ j, w2.frozen? ⟨w.heap.size, j, none⟩ = false := fun j => free_of_block y
         have Y := hid y
         clear hb2 y))
    rw [← HP.out]
    exact bodyPost_ret (ret_aggV Tryz.results30 rfl rfl (set3 Y.out _ _ _)) rfl ⟨rfl, blw_set3 (below_on (below_on hB2.out HB.out) HB2.out) (Nat.le_refl _) _ _ _⟩
theorem tb_not {cm : Value × Value} {w : World} {p : Nat} {t : Tr} (ht : Tb cm w p t) {k : Nat} {cs : Array Value} {ty : TypeId} (hb : w.heap[k]? = some (.cells cs ty (0, 0))) (hn : ty ≠ 114 ∧ ty ≠ 154) : k ≠ p ∧ k ∉ t.bs := by
  refine ⟨?_, fun h => ?_⟩
  · rintro rfl
    rw [ht.blk] at hb
    injection hb with e
    injection e with _ e
    exact hn.1 e.symm
  · obtain ⟨key, v, hm⟩ := bs_mem h
    obtain ⟨a, c, d, e⟩ := ht.at_.mem k key v hm
    rw [e] at hb
    injection hb with e2
    injection e2 with _ e2
    exact hn.2 e2.symm
theorem Tb.count {w : World} {p : Nat} {t : Tr} {c m : Value} (ht : Tb (c, m) w p t) (c' : Value) : Tb (c', m) (w.setCell ⟨p, 2, none⟩ c') p t := by
  have K : Kept (fun j => j = p) w (w.setCell ⟨p, 2, none⟩ c') := (Kept.refl (fun j => j = p) w).setCell (p := ⟨p, 2, none⟩) (fun _ => rfl) _
  exact ⟨set_block (i := 2) ht.blk c', ht.at_.kept K (fun i hi e => ht.apart (e ▸ hi)), ht.rs, ht.nd⟩
def updF (f : Nat → Sd) (b : Nat) (s : Sd) : Nat → Sd := fun j => if j = b then s else f j
theorem ZS.below {w w' : World} {p : Nat} {t : Tr} {f : Nat → Sd} {c : Int} {m : Bool} (h : ZS w p t f c m) (hb : Below w.heap.size w w') : ZS w' p t f c m :=
  ⟨h.tb.below hb, fun e he => by
    obtain ⟨b, h1, h2⟩ := h.sl e he
    exact ⟨b, h1, hp_below h2 hb (hp_lt h2)⟩, h.nd, h.sh⟩
theorem ZS.count {w : World} {p : Nat} {t : Tr} {f : Nat → Sd} {c : Int} {m : Bool} (h : ZS w p t f c m) (c' : Int) : ZS (w.setCell ⟨p, 2, none⟩ (.int .i64 c')) p t f c' m :=
  ⟨h.tb.count _, fun e he => by
    obtain ⟨b, h1, h2⟩ := h.sl e he
    exact ⟨b, h1, hp_set h2 (tb_not h.tb h2 (by decide)).1 _⟩, h.nd, h.sh⟩
theorem ZS.lay {w w' : World} {p : Nat} {t : Tr} {f : Nat → Sd} {c : Int} {m : Bool} {e0 : En} {b : Nat} {s : Sd} (h : ZS w p t f c m) (he : e0 ∈ t.toL) (hb : e0.2.2 = .pointer (some ⟨b, 0, none⟩)) (hs : Sl w' b s) (hk : Kept (fun j => j = b) w w') : ZS w' p t (updF f b s) c m := by
  obtain ⟨b0, h1, h2⟩ := h.sl e0 he
  have hbb : b0 = b := by rw [hb] at h1; injection h1 with h1; injection h1 with h1; injection h1 with h1; exact h1.symm
  subst hbb
  have hn := tb_not h.tb h2 (by decide)
  refine ⟨h.tb.kept hk (fun e => hn.1 e.symm) (fun i hi e => hn.2 (e ▸ hi)), fun e hm => ?_, h.nd, h.sh⟩
  obtain ⟨b', q1, q2⟩ := h.sl e hm
  refine ⟨b', q1, ?_⟩
  by_cases hbe : b' = b0
  · subst hbe
    unfold updF
    rw [if_pos rfl]
    exact hs
  · unfold updF
    rw [if_neg hbe]
    exact hp_kept q2 hk hbe
def SputP (w : World) (p : Nat) (t : Tr) (f : Nat → Sd) (c : Int) (m : Bool) (b : Nat) (v : Pd) : Ending → World → Prop := fun x w' => x = .returned (.tuple #[]) ∧ ZS w' p t (updF f b ((f b).lay v true)) (if (f b).has (f b).r then c else c + 1) m ∧ Kept (fun j => j = p ∨ j = b) w w'
set_option maxHeartbeats 4000000 in
theorem sput_has (p : Nat) (key : ByteArray) (v : Pd) (t : Tr) (f : Nat → Sd) (c : Int) (m : Bool) (w : World) (e0 : En) (b : Nat) (h : ZS w p t f c m) (hc : 0 ≤ c ∧ c ≤ 1000000) (hq : ent key t.toL = some e0) (hb : e0.2.2 = .pointer (some ⟨b, 0, none⟩)) :
    Calls Tryz.prog 24 #[.pointer (some ⟨p, 0, none⟩), .string key, v.agg] w (SputP w p t f c m b v) := by
  have he := (ent_some hq).1
  have hB1 := hid (hp_new w (vB v))
  have hB2 := hid (below_new w (vB v))
  have AT := hid (sat_any (some ⟨p, 0, none⟩) key t (w.alloc (vB v)) (some ⟨b, 0, none⟩) true (.inr ⟨p, _, rfl, h.tb.below (below_new w (vB v))⟩) (by rw [getV, hq]; show Value.tuple #[e0.2.2, .bool true] = _; rw [hb]))
  have hsl : ∀ {W : World} {c' : Int}, ZS W p t f c' m → Sl W b (f b) := fun hz => by
    obtain ⟨b0, h1, h2⟩ := hz.sl e0 he
    have hbb : b0 = b := by rw [hb] at h1; injection h1 with h1; injection h1 with h1; injection h1 with h1; exact h1.symm
    subst hbb
    exact h2
  have RD := hid (fun w1 (hb1 : Below w.heap.size w w1) => read_any b (f b) w1 (hsl (h.below hb1)))
  have LY := hid (show ∀ W c', ZS W p t f c' m → Calls Tryz.prog 47 #[.pointer (some ⟨b, 0, none⟩), v.agg, .bool true] W fun x w' => x = .returned (.tuple #[]) ∧ Hid (ZS w' p t (updF f b ((f b).lay v true)) c' m ∧ Kept (fun j => j = b) W w') from fun W c' hz => by
    refine (lay_any b (f b) v true W (hsl hz)).mono ?_
    rintro x w' ⟨rfl, h1, h2⟩
    exact ⟨rfl, hid ⟨hz.lay he hb h1 h2, h2⟩⟩)
  have HZ := hid h
  have hcw : IntKind.i64.wrap (c + 1) = c + 1 := by rw [IntKind.wrap_i64]; omega
  have hpn : p ≠ w.heap.size := by have := hp_lt h.tb.blk; omega
  generalize hP : SputP w p t f c m b v = PP
  have HP := hid hP
  clear h hc hq hb he hsl hP
  obtain ⟨n0, a0, o0⟩ := v
  generalize hv : (f b).copy (f b).r = rv at RD
  obtain ⟨n1, a1, o1⟩ := rv
  cases hh : (f b).has (f b).r
  · have R2 := hid (show ∀ w1, Below w.heap.size w w1 → Calls Tryz.prog 46 #[.pointer (some ⟨b, 0, none⟩)] w1 fun x w' => x = .returned (.tuple #[.agg #[.int .i64 n1, .int .i64 a1, .string o1], .bool false]) ∧ Hid (Below w1.heap.size w1 w') from fun w1 hb1 => (RD.out w1 hb1).mono (by
      rintro x w' ⟨rfl, hb⟩
      exact ⟨by rw [hh, hv], hid hb⟩))
    have HH := hid hh
    clear RD hh hv
    go_enter Tryz.func24, Tryz.ntmps24
    go_wp2_with (first
      | (go_at_call 44
         refine AT.out.mono ?_
         rintro e w1 ⟨rfl, hb1⟩
         have B1 := hid (below_on hB2.out hb1)
         have Y1 := hid (hp_below hB1.out hb1 (hp_lt hB1.out))
         clear hb1)
      | (go_at_call 46
         refine (R2.out w1 B1.out).mono ?_
         rintro e w2 ⟨rfl, B2⟩
         have hB3 := hid (below_new w2 (.cells #[.int .i64 n1, .int .i64 a1, .string o1] 29))
         have Z2 := hid (HZ.out.below (below_on (below_on B1.out B2.out) hB3.out))
         have Y2 := hid (hp_below (hp_below Y1.out B2.out (hp_lt Y1.out)) hB3.out (hp_lt (hp_below Y1.out B2.out (hp_lt Y1.out))))
         obtain ⟨y0, y1, y2, y3⟩ := cells4 Z2.out.tb.blk
         have yf : ∀ j, (w2.alloc (.cells #[.int .i64 n1, .int .i64 a1, .string o1] 29)).frozen? ⟨p, j, none⟩ = false := fun j => free_of_block Z2.out.tb.blk
         obtain ⟨u0, u1, u2⟩ := cells3 Y2.out
         have Z3 := hid (Z2.out.count (c + 1))
         have L2 := hid (LY.out _ _ Z3.out))
      | (go_at_call 47
         refine L2.out.mono ?_
         rintro e w3 ⟨rfl, N3⟩))
    go_end0
    rw [← HP.out]
    refine ⟨rfl, by rw [HH.out]; exact N3.out.1, ?_⟩
    have k1 : Kept (fun j => j = p ∨ j = b) w (w2.alloc (.cells #[.int .i64 n1, .int .i64 a1, .string o1] 29)) := (Kept.ofBelow (below_on (below_on B1.out B2.out) hB3.out)).mono (fun _ _ e => e.elim)
    exact (k1.setCell (p := ⟨p, 2, none⟩) (fun _ => .inl rfl) _).trans N3.out.2 (fun _ _ e => .inr e)
  · have R2 := hid (show ∀ w1, Below w.heap.size w w1 → Calls Tryz.prog 46 #[.pointer (some ⟨b, 0, none⟩)] w1 fun x w' => x = .returned (.tuple #[.agg #[.int .i64 n1, .int .i64 a1, .string o1], .bool true]) ∧ Hid (Below w1.heap.size w1 w') from fun w1 hb1 => (RD.out w1 hb1).mono (by
      rintro x w' ⟨rfl, hb⟩
      exact ⟨by rw [hh, hv], hid hb⟩))
    have HH := hid hh
    clear RD hh hv
    go_enter Tryz.func24, Tryz.ntmps24
    go_wp2_with (first
      | (go_at_call 44
         refine AT.out.mono ?_
         rintro e w1 ⟨rfl, hb1⟩
         have B1 := hid (below_on hB2.out hb1)
         have Y1 := hid (hp_below hB1.out hb1 (hp_lt hB1.out))
         clear hb1)
      | (go_at_call 46
         refine (R2.out w1 B1.out).mono ?_
         rintro e w2 ⟨rfl, B2⟩
         have hB3 := hid (below_new w2 (.cells #[.int .i64 n1, .int .i64 a1, .string o1] 29))
         have Z2 := hid (HZ.out.below (below_on (below_on B1.out B2.out) hB3.out))
         have Y2 := hid (hp_below (hp_below Y1.out B2.out (hp_lt Y1.out)) hB3.out (hp_lt (hp_below Y1.out B2.out (hp_lt Y1.out))))
         obtain ⟨y0, y1, y2, y3⟩ := cells4 Z2.out.tb.blk
         have yf : ∀ j, (w2.alloc (.cells #[.int .i64 n1, .int .i64 a1, .string o1] 29)).frozen? ⟨p, j, none⟩ = false := fun j => free_of_block Z2.out.tb.blk
         obtain ⟨u0, u1, u2⟩ := cells3 Y2.out
         have L2 := hid (LY.out _ _ Z2.out))
      | (go_at_call 47
         refine L2.out.mono ?_
         rintro e w3 ⟨rfl, N3⟩))
    go_end0
    rw [← HP.out]
    refine ⟨rfl, by rw [HH.out]; exact N3.out.1, ?_⟩
    have k1 : Kept (fun j => j = p ∨ j = b) w (w2.alloc (.cells #[.int .i64 n1, .int .i64 a1, .string o1] 29)) := (Kept.ofBelow (below_on (below_on B1.out B2.out) hB3.out)).mono (fun _ _ e => e.elim)
    exact k1.trans N3.out.2 (fun _ _ e => .inr e)
abbrev s0 : Sd := ⟨zPd, zPd, false, false, false, true⟩
abbrev s0B : Obj := .cells #[.int .i64 0, .int .i64 0, .string ⟨#[]⟩, .int .i64 0, .int .i64 0, .string ⟨#[]⟩, .bool false, .bool false, .int .i64 0, .int .i64 1] 121
theorem ZS.put {w w1 w3 : World} {p : Nat} {t t' : Tr} {f : Nat → Sd} {c : Int} {m : Bool} {key : ByteArray} (h : ZS w p t f c m) (hb : Below w.heap.size w w1) (hp : PutP (.int .i64 c, .bool m) (w1.alloc s0B) w3 p t t' key (.pointer (some ⟨w1.heap.size, 0, none⟩))) (hq : ent key t.toL = none) (hk : key.size ≤ 281474976710656) :
    ZS w3 p t' (updF f w1.heap.size s0) c m ∧ (∃ n, t'.toL = ins (n, key, .pointer (some ⟨w1.heap.size, 0, none⟩)) t.toL) ∧ Kept (fun j => j = p ∨ j ∈ t.bs) w w3 ∧ ∀ i ∈ t'.bs, i ∈ t.bs ∨ w.heap.size ≤ i := by
  have hz := h.below hb
  have hz2 := hz.below (below_new w1 s0B)
  have hnew : (w1.alloc s0B).heap[w1.heap.size]? = some s0B := hp_new w1 _
  have hn := tb_not hz2.tb hnew (by decide)
  have hs3 : Sl w3 w1.heap.size s0 := hp_kept hnew hp.kp (fun e => e.elim hn.1 hn.2)
  obtain ⟨mb, hl⟩ : ∃ n, t'.toL = ins (n, key, .pointer (some ⟨w1.heap.size, 0, none⟩)) t.toL := by
    rcases hp.ls with ⟨e, he, -⟩ | ⟨-, n, hl⟩
    · rw [hq] at he; cases he
    · exact ⟨n, hl⟩
  have hperm := ins_perm (mb, key, Value.pointer (some ⟨w1.heap.size, 0, none⟩)) t.toL
  have hlt : ∀ e ∈ t.toL, ∀ b, e.2.2 = .pointer (some ⟨b, 0, none⟩) → b < w1.heap.size := fun e he b hbe => by
    obtain ⟨b0, q1, q2⟩ := hz.sl e he
    rw [hbe] at q1
    injection q1 with q1
    injection q1 with q1
    injection q1 with q1
    subst q1
    exact hp_lt q2
  refine ⟨⟨hp.tb, fun e he => ?_, ?_, fun e he => ?_⟩, ⟨mb, hl⟩, ((Kept.ofBelow (below_on hb (below_new w1 s0B))).mono (fun _ _ e => e.elim)).trans hp.kp (fun _ _ e => e), fun i hi => (hp.nw i hi).imp id (fun h => by have := hb.size; simp at h; omega)⟩
  · rw [hl] at he
    rcases List.mem_cons.1 (hperm.mem_iff.1 he) with rfl | h1
    · exact ⟨_, rfl, by unfold updF; rw [if_pos rfl]; exact hs3⟩
    · obtain ⟨b, q1, q2⟩ := hz2.sl e h1
      have hb2 := hlt e h1 b q1
      refine ⟨b, q1, ?_⟩
      unfold updF
      rw [if_neg (by omega)]
      have hnb := tb_not hz2.tb q2 (by decide)
      exact hp_kept q2 hp.kp (fun e => e.elim hnb.1 hnb.2)
  · rw [hl]
    refine ((hperm.map (fun e => e.2.2)).nodup_iff).2 ?_
    rw [List.map_cons, List.nodup_cons]
    refine ⟨fun hm => ?_, h.nd⟩
    obtain ⟨e, he, hv⟩ := List.mem_map.1 hm
    have := hlt e he w1.heap.size hv
    omega
  · rw [hl] at he
    rcases List.mem_cons.1 (hperm.mem_iff.1 he) with rfl | h1
    · exact hk
    · exact h.sh e h1
def SputN (w : World) (p : Nat) (t : Tr) (f : Nat → Sd) (c : Int) (m : Bool) (key : ByteArray) (v : Pd) : Ending → World → Prop := fun x w' => x = .returned (.tuple #[]) ∧ ∃ t' b n, w.heap.size ≤ b ∧ t'.toL = ins (n, key, .pointer (some ⟨b, 0, none⟩)) t.toL ∧ ZS w' p t' (updF (updF f b s0) b (s0.lay v true)) (c + 1) m ∧ Kept (fun j => j = p ∨ j ∈ t.bs) w w' ∧ ∀ i ∈ t'.bs, i ∈ t.bs ∨ w.heap.size ≤ i
set_option maxHeartbeats 4000000 in
theorem sput_new (p : Nat) (key : ByteArray) (v : Pd) (t : Tr) (f : Nat → Sd) (c : Int) (m : Bool) (w : World) (h : ZS w p t f c m) (hc : 0 ≤ c ∧ c ≤ 1000000) (hn : t.n ≤ 600000) (hk : key.size ≤ 281474976710656) (hq : ent key t.toL = none) :
    Calls Tryz.prog 24 #[.pointer (some ⟨p, 0, none⟩), .string key, v.agg] w (SputN w p t f c m key v) := by
  have hB1 := hid (hp_new w (vB v))
  have hB2 := hid (below_new w (vB v))
  have AT := hid (sat_any (some ⟨p, 0, none⟩) key t (w.alloc (vB v)) none false (.inr ⟨p, _, rfl, h.tb.below (below_new w (vB v))⟩) (by rw [getV, hq]))
  have hvb : ∀ {W : World} {c' : Int} {t' : Tr} {f' : Nat → Sd}, ZS W p t' f' c' m → W.heap[w.heap.size]? = some (vB v) → w.heap.size ≠ p ∧ w.heap.size ∉ t'.bs := fun hz hy => tb_not hz.tb hy (by decide)
  have PU := hid (show ∀ w1, Below w.heap.size w w1 → w1.heap[w.heap.size]? = some (vB v) → Calls Tryz.prog 45 #[.pointer (some ⟨p, 0, none⟩), .string key, .pointer (some ⟨w1.heap.size, 0, none⟩)] (w1.alloc s0B) fun x w' => ∃ t' u, x = .returned u ∧ Hid (ZS w' p t' (updF f w1.heap.size s0) c m ∧ (∃ n, t'.toL = ins (n, key, .pointer (some ⟨w1.heap.size, 0, none⟩)) t.toL) ∧ Kept (fun j => j = p ∨ j ∈ t.bs) w w' ∧ (∀ i ∈ t'.bs, i ∈ t.bs ∨ w.heap.size ≤ i) ∧ w'.heap[w.heap.size]? = some (vB v)) from fun w1 hb hy => by
    refine (put_any p key (some ⟨w1.heap.size, 0, none⟩) t (w1.alloc s0B) ((h.below hb).below (below_new w1 s0B)).tb hn hk).mono ?_
    rintro x w' ⟨t', rfl, hp⟩
    have hy2 := hp_alloc hy s0B
    have hno := hvb ((h.below hb).below (below_new w1 s0B)) hy2
    obtain ⟨q1, q2, q3, q4⟩ := h.put hb hp hq hk
    exact ⟨t', _, rfl, hid ⟨q1, q2, q3, q4, hp_kept hy2 hp.kp (fun e => e.elim hno.1 hno.2)⟩⟩)
  have hmem : ∀ {t' : Tr} {n b : Nat}, t'.toL = ins (n, key, Value.pointer (some ⟨b, 0, none⟩)) t.toL → (n, key, Value.pointer (some ⟨b, 0, none⟩)) ∈ t'.toL := fun hl => by rw [hl]; exact (ins_perm _ _).mem_iff.2 (by simp)
  have RD := hid (show ∀ (W : World) (t' : Tr) (b : Nat), ZS W p t' (updF f b s0) c m → (∃ n, t'.toL = ins (n, key, .pointer (some ⟨b, 0, none⟩)) t.toL) → Calls Tryz.prog 46 #[.pointer (some ⟨b, 0, none⟩)] W fun x w' => x = .returned (.tuple #[.agg #[.int .i64 0, .int .i64 0, .string ⟨#[]⟩], .bool false]) ∧ Hid (ZS w' p t' (updF f b s0) c m ∧ Below W.heap.size W w') from fun W t' b hz hl => by
    obtain ⟨n, hl⟩ := hl
    obtain ⟨b0, q1, q2⟩ := hz.sl _ (hmem hl)
    have hbb : b0 = b := by injection q1 with q1; injection q1 with q1; injection q1 with q1; exact q1.symm
    subst hbb
    have q3 : Sl W b0 s0 := by have := q2; unfold updF at this; rw [if_pos rfl] at this; exact this
    refine (read_any b0 s0 W q3).mono ?_
    rintro x w' ⟨rfl, hb⟩
    exact ⟨rfl, hid ⟨hz.below hb, hb⟩⟩)
  have LY := hid (show ∀ (W : World) (t' : Tr) (b : Nat) c', ZS W p t' (updF f b s0) c' m → (∃ n, t'.toL = ins (n, key, .pointer (some ⟨b, 0, none⟩)) t.toL) → Calls Tryz.prog 47 #[.pointer (some ⟨b, 0, none⟩), v.agg, .bool true] W fun x w' => x = .returned (.tuple #[]) ∧ Hid (ZS w' p t' (updF (updF f b s0) b (s0.lay v true)) c' m ∧ Kept (fun j => j = b) W w') from fun W t' b c' hz hl => by
    obtain ⟨n, hl⟩ := hl
    obtain ⟨b0, q1, q2⟩ := hz.sl _ (hmem hl)
    have hbb : b0 = b := by injection q1 with q1; injection q1 with q1; injection q1 with q1; exact q1.symm
    subst hbb
    have q3 : Sl W b0 s0 := by have := q2; unfold updF at this; rw [if_pos rfl] at this; exact this
    refine (lay_any b0 s0 v true W q3).mono ?_
    rintro x w' ⟨rfl, h1, h2⟩
    exact ⟨rfl, hid ⟨hz.lay (hmem hl) rfl h1 h2, h2⟩⟩)
  have hcw : IntKind.i64.wrap (c + 1) = c + 1 := by rw [IntKind.wrap_i64]; omega
  have hpn : p ≠ w.heap.size := by have := hp_lt h.tb.blk; omega
  generalize hP : SputN w p t f c m key v = PP
  have HP := hid hP
  clear h hc hq hn hk hmem hP hvb
  obtain ⟨n0, a0, o0⟩ := v
  go_enter Tryz.func24, Tryz.ntmps24
  go_wp2_with (first
    | (go_at_call 44
       refine AT.out.mono ?_
       rintro e w1 ⟨rfl, hb1⟩
       have B1 := hid (below_on hB2.out hb1)
       have P1 := hid (PU.out w1 B1.out (hp_below hB1.out hb1 (hp_lt hB1.out)))
       clear hb1)
    | (go_at_call 45
       refine P1.out.mono ?_
       rintro e w2 ⟨t', u2, rfl, N2⟩
       have R2 := hid (RD.out w2 t' w1.heap.size N2.out.1 N2.out.2.1))
    | (go_at_call 46
       refine R2.out.mono ?_
       rintro e w3 ⟨rfl, N3⟩
       have hB3 := hid (below_new w3 zB)
       have Z3 := hid (N3.out.1.below hB3.out)
       have Y3 := hid (hp_alloc (hp_below N2.out.2.2.2.2 N3.out.2 (hp_lt N2.out.2.2.2.2)) zB)
       obtain ⟨y0, y1, y2, y3⟩ := cells4 Z3.out.tb.blk
       have yf : ∀ j, (w3.alloc zB).frozen? ⟨p, j, none⟩ = false := fun j => free_of_block Z3.out.tb.blk
       obtain ⟨u0, u1, u2⟩ := cells3 Y3.out
       have L3 := hid (LY.out _ t' w1.heap.size _ (Z3.out.count (c + 1)) N2.out.2.1))
    | (go_at_call 47
       refine L3.out.mono ?_
       rintro e w4 ⟨rfl, N4⟩))
  go_end0
  rw [← HP.out]
  obtain ⟨n, hl⟩ := N2.out.2.1
  refine ⟨rfl, t', w1.heap.size, n, B1.out.size, hl, N4.out.1, ?_, N2.out.2.2.2.1⟩
  have k1 : Kept (fun j => j = p ∨ j ∈ t.bs) w (w3.alloc zB) := N2.out.2.2.1.trans ((Kept.ofBelow (below_on N3.out.2 hB3.out))) (fun _ _ e => e.elim)
  have hs := B1.out.size
  exact (k1.setCell (p := ⟨p, 2, none⟩) (fun _ => .inl rfl) _).trans N4.out.2 (fun j hj e => by omega)
def bk : Value → Nat
  | .pointer (some a) => a.block
  | _ => 0
theorem ZS.lt {w : World} {p : Nat} {t : Tr} {f : Nat → Sd} {c : Int} {m : Bool} (h : ZS w p t f c m) : p < w.heap.size ∧ (∀ i ∈ t.bs, i < w.heap.size) ∧ ∀ e ∈ t.toL, bk e.2.2 < w.heap.size :=
  ⟨hp_lt h.tb.blk, fun i hi => h.tb.at_.lt i hi, fun e he => by
    obtain ⟨b, q1, q2⟩ := h.sl e he
    rw [q1]
    exact hp_lt q2⟩
theorem nd_inj : ∀ {l : List En}, (l.map (fun e => e.2.2)).Nodup → ∀ a ∈ l, ∀ b ∈ l, a.2.2 = b.2.2 → a = b
  | [], _, _, h, _, _, _ => by cases h
  | c :: l, hn, a, ha, b, hb, e => by
    rw [List.map_cons, List.nodup_cons] at hn
    rcases List.mem_cons.1 ha with h1 | h1 <;> rcases List.mem_cons.1 hb with h2 | h2
    · rw [h1, h2]
    · subst h1
      exact absurd (List.mem_map.2 ⟨b, h2, e.symm⟩) hn.1
    · subst h2
      exact absurd (List.mem_map.2 ⟨a, h1, e⟩) hn.1
    · exact nd_inj hn.2 a h1 b h2 e
end Go.Proofs.YthcoigbkdbkojabGreat.V
