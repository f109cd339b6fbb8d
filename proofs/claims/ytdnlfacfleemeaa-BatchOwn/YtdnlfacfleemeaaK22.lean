import Derived.Test.YtdnlfacfleemeaaK21
import Derived.Test.YtdnlfacfleemeaaK20
import Derived.Test.YtdnlfacfleemeaaK18
import Derived.Test.YtdnlfacfleemeaaK16
import Derived.Deep.QuietTactic
namespace Go.Proofs.Ytdnlfacfleemeaa
open Go.RowKit Go.WideShapes Go.ChangeAt Go.ChangeShapes

theorem Try.cells30 : Try.prog.cellsOf 30 = 6 := by kernel_rfl
theorem Try.cells28 : Try.prog.cellsOf 28 = 1 := by kernel_rfl
theorem Try.cells24 : Try.prog.cellsOf 24 = 2 := by kernel_rfl
theorem Try.cells22 : Try.prog.cellsOf 22 = 1 := by kernel_rfl

def Vd.cells (v : Vd) : List Value := [.int .i64 v.k, .int .i64 v.i, .string v.t]
theorem vd_cells (v : Vd) : v.cells.length = 3 := rfl
theorem vd_one (v : Vd) : ∀ u ∈ v.cells, u.oneCell' = true := by
  intro u hu
  simp [Vd.cells] at hu
  rcases hu with rfl | rfl | rfl <;> rfl

instance : Inhabited Vd := ⟨⟨0, 0, emp⟩⟩

theorem vd_of_trod {H : Type} {enc : TypeId × Value → H} {W : World} {base : Nat} {spare : Nat → Bool} {held : Bool} {fuel : Nat} {cs : List Value} {x : DataW H × List MemPlace}
    (h : DataW.trod enc Try.prog W base spare held fuel 50 cs = some x) : ∃ y : Vd, VdOk y ∧ cs = y.cells := by
  obtain ⟨k, i, s, rfl, hi, _⟩ := vl_of_trod h
  exact ⟨⟨k, i, s⟩, ⟨hi.1, by have := hi.2; show i < 9223372036854775808; omega⟩, rfl⟩

theorem vs_of_rf {w : World} {v : Value} {vs : List Vd} (h : Rf w 3 v vs.length (vs.flatMap Vd.cells)) : VsAt 0 w v vs := by
  obtain ⟨ao, cap, rfl, hc, _⟩ := h.shape
  refine ⟨ao, cap, rfl, hc, fun hn => ?_⟩
  obtain ⟨b, off, cap', e, _, _, hcell⟩ := h.lits (List.length_pos_iff.2 hn) (by decide)
  injection e with e1 _ _
  refine ⟨b, off, e1, Nat.zero_le _, fun j x hx => ?_⟩
  have key : ∀ c, c < 3 → w.cell? ⟨b, off + (j * 3 + c), none⟩ = x.cells[c]? := by
    intro c hc
    have hg := flat_get Vd.cells 3 vd_cells vs j c hc
    rw [hx] at hg
    simp only [Option.bind_some] at hg
    obtain ⟨u, hu⟩ : ∃ u, x.cells[c]? = some u := ⟨_, List.getElem?_eq_getElem (by rw [vd_cells]; exact hc)⟩
    rw [hu] at hg ⊢
    exact hcell _ _ hg
  exact ⟨key 0 (by decide), key 1 (by decide), key 2 (by decide)⟩

theorem cd_of_code {w : World} {v : Value} {xs : List Ins} (h : CodeAt w v xs) : CdAt 0 w v xs := by
  obtain ⟨ao, cap, h1, h2, h3⟩ := h
  refine ⟨ao, cap, h1, h2, fun hn => ?_⟩
  obtain ⟨b, off, h4, h5⟩ := h3 hn
  exact ⟨b, off, h4, Nat.zero_le _, h5⟩

/-- A transaction with its two lists. -/
structure Tx2 where
  t : Txd
  a1 : Option Addr
  c1 : Nat
  a2 : Option Addr
  c2 : Nat
abbrev Tx2.S1 (y : Tx2) : Value := .slice y.a1 y.t.xs.length y.c1
abbrev Tx2.S2 (y : Tx2) : Value := .slice y.a2 y.t.vs.length y.c2
def Tx2.cells (y : Tx2) : List Value := [.int .i64 y.t.k, .string y.t.pn, .int .i64 y.t.pa, y.S1, .string y.t.nm, y.S2]
theorem tx2_cells (y : Tx2) : y.cells.length = 6 := rfl
theorem tx2_one (y : Tx2) : ∀ u ∈ y.cells, u.oneCell' = true := by
  intro u hu
  simp [Tx2.cells] at hu
  rcases hu with rfl | rfl | rfl | rfl | rfl | rfl <;> rfl
instance : Inhabited Tx2 := ⟨⟨⟨0, emp, 0, [], emp, []⟩, none, 0, none, 0⟩⟩

def Tx2Ok (W : World) (y : Tx2) : Prop := CdAt 0 W y.S1 y.t.xs ∧ VsAt 0 W y.S2 y.t.vs ∧ TxOk y.t

set_option maxRecDepth 100000 in
theorem tx_of_trod {H : Type} {enc : TypeId × Value → H} {W : World} {base : Nat} {held : Bool} {fuel : Nat} {cs : List Value} {x : DataW H × List MemPlace}
    (h : DataW.trod enc Try.prog W base (fun _ => true) held fuel 30 cs = some x) : ∃ y : Tx2, Tx2Ok W y ∧ cs = y.cells := by
  obtain ⟨xs, n, _, rfl, hl, hlen, hf⟩ := DataW.trod_struct Try.underlying30 h
  rw [Try.cells30] at hl
  match cs, hl, xs, hlen with
  | [c0, c1, c2, c3, c4, c5], _, [y0, y1, y2, y3], _ =>
    have f0 : DataW.trod enc Try.prog W base (fun _ => true) held n 3 (([c0, c1, c2, c3, c4, c5].drop 0).take (Try.prog.cellsOf 3)) = some y0 := hf 0 _ rfl
    have f1 : DataW.trod enc Try.prog W base (fun _ => true) held n 27 (([c0, c1, c2, c3, c4, c5].drop 1).take (Try.prog.cellsOf 27)) = some y1 := hf 1 _ rfl
    have f2 : DataW.trod enc Try.prog W base (fun _ => true) held n 9 (([c0, c1, c2, c3, c4, c5].drop 4).take (Try.prog.cellsOf 9)) = some y2 := hf 2 _ rfl
    have f3 : DataW.trod enc Try.prog W base (fun _ => true) held n 28 (([c0, c1, c2, c3, c4, c5].drop 5).take (Try.prog.cellsOf 28)) = some y3 := hf 3 _ rfl
    rw [Try.cells3] at f0
    rw [Try.cells27] at f1
    rw [Try.cells9] at f2
    rw [Try.cells28] at f3
    obtain ⟨a0, e0, _, _⟩ := DataW.trod_int Try.underlying3 (x := y0) (by simpa using f0)
    obtain ⟨s2, e2, _, _⟩ := DataW.trod_string Try.underlying9 (x := y2) (by simpa using f2)
    obtain ⟨S2, vs, e3, hR3, hO3⟩ := rf_of_trod Vd.cells VdOk 3 vd_cells vd_one Try.underlying28 Try.cells50 (fun _ _ _ h => vd_of_trod h) f3
    obtain ⟨zs, n1, _, _, hl1, hlen1, hf1⟩ := DataW.trod_struct Try.underlying27 f1
    match zs, hlen1 with
    | [z0, z1, z2], _ =>
      have g0 : DataW.trod enc Try.prog W base (fun _ => true) held n1 9 (([c1, c2, c3].drop 0).take (Try.prog.cellsOf 9)) = some z0 := hf1 0 _ rfl
      have g1 : DataW.trod enc Try.prog W base (fun _ => true) held n1 3 (([c1, c2, c3].drop 1).take (Try.prog.cellsOf 3)) = some z1 := hf1 1 _ rfl
      have g2 : DataW.trod enc Try.prog W base (fun _ => true) held n1 25 (([c1, c2, c3].drop 2).take (Try.prog.cellsOf 25)) = some z2 := hf1 2 _ rfl
      rw [Try.cells9] at g0
      rw [Try.cells3] at g1
      rw [Try.cells25] at g2
      obtain ⟨pn, e10, _, _⟩ := DataW.trod_string Try.underlying9 (x := z0) (by simpa using g0)
      obtain ⟨pa, e11, _, _⟩ := DataW.trod_int Try.underlying3 (x := z1) (by simpa using g1)
      obtain ⟨S1, ys, e12, hR1, hO1⟩ := rf_of_trod Ins.cells InsOk 8 ins_cells ins_one Try.underlying25 Try.cells52 (fun _ _ _ h => ins_of_trod h) g2
      simp at e0 e2 e3 e10 e11 e12
      subst e0 e2 e3 e10 e11 e12
      obtain ⟨b1, d1, rfl, _⟩ := hR1.shape
      obtain ⟨b2, d2, rfl, _⟩ := hR3.shape
      exact ⟨⟨⟨a0, pn, pa, ys, s2, vs⟩, b1, d1, b2, d2⟩, ⟨cd_of_code (code_of_rf hR1), vs_of_rf hR3, ⟨hO1, hO3⟩⟩, rfl⟩

theorem tx2_at {w : World} {v : Value} {ys : List Tx2} (h : Rf w 6 v ys.length (ys.flatMap Tx2.cells)) (hp : ∀ y ∈ ys, Tx2Ok w y) : TsAt 0 w v (ys.map Tx2.t) := by
  obtain ⟨ao, cap, rfl, hc, _⟩ := h.shape
  refine ⟨ao, cap, by rw [List.length_map], by rw [List.length_map]; exact hc, fun hn => ?_⟩
  have hn' : ys ≠ [] := by intro e; rw [e] at hn; simp at hn
  obtain ⟨b, off, cap', e, _, _, hcell⟩ := h.lits (List.length_pos_iff.2 hn') (by decide)
  injection e with e1 _ _
  refine ⟨b, off, e1, Nat.zero_le _, fun j t ht => ?_⟩
  rw [List.getElem?_map] at ht
  cases hy : ys[j]? with
  | none => rw [hy] at ht; cases ht
  | some y =>
    rw [hy] at ht
    injection ht with ht
    subst ht
    obtain ⟨p1, p2, _⟩ := hp y (List.mem_of_getElem? hy)
    have key : ∀ c, c < 6 → w.cell? ⟨b, off + (j * 6 + c), none⟩ = y.cells[c]? := by
      intro c hc
      have hg := flat_get Tx2.cells 6 tx2_cells ys j c hc
      rw [hy] at hg
      simp only [Option.bind_some] at hg
      obtain ⟨u, hu⟩ : ∃ u, y.cells[c]? = some u := ⟨_, List.getElem?_eq_getElem (by rw [tx2_cells]; exact hc)⟩
      rw [hu] at hg ⊢
      exact hcell _ _ hg
    exact ⟨y.S1, y.S2, ⟨key 0 (by decide), key 1 (by decide), key 2 (by decide), key 3 (by decide), key 4 (by decide), key 5 (by decide)⟩, p1, p2⟩

set_option maxRecDepth 100000 in
/-- A batch as an argument. -/
theorem batch_of_trod {H : Type} {enc : TypeId × Value → H} {W : World} {base b2 : Nat} {held : Bool} {v : Value} {d : DataW H} {p : List MemPlace} (hv : Value.okWide Try.prog W .any b2 24 v)
    (h : DataW.Trod enc Try.prog W base (fun _ => true) held 24 v d p) : ∃ (f : Int) (S : Value) (ts : List Txd), v = .agg #[.int .i64 f, S] ∧ TsAt 0 W S ts ∧ (∀ t ∈ ts, TxOk t) ∧ (-9223372036854775808 ≤ f ∧ f < 9223372036854775808) := by
  obtain ⟨⟨cs⟩, rfl, _⟩ := okWide_struct Try.underlying24 hv
  obtain ⟨fuel, hf0⟩ := h
  have hf0 : DataW.trod enc Try.prog W base (fun _ => true) held fuel 24 cs = some (d, p) := by simpa [Value.cells] using hf0
  obtain ⟨xs, n, _, hd, hl, hlen, hf⟩ := DataW.trod_struct Try.underlying24 hf0
  rw [Try.cells24] at hl
  match cs, hl, xs, hlen with
  | [c0, c1], _, [y0, y1], _ =>
    have f0 : DataW.trod enc Try.prog W base (fun _ => true) held n 3 (([c0, c1].drop 0).take (Try.prog.cellsOf 3)) = some y0 := hf 0 _ rfl
    have f1 : DataW.trod enc Try.prog W base (fun _ => true) held n 22 (([c0, c1].drop 1).take (Try.prog.cellsOf 22)) = some y1 := hf 1 _ rfl
    rw [Try.cells3] at f0
    rw [Try.cells22] at f1
    obtain ⟨a0, e0, _, w0⟩ := DataW.trod_int Try.underlying3 (x := y0) (by simpa using f0)
    obtain ⟨S, ys, e1, hR, hO⟩ := rf_of_trod Tx2.cells (Tx2Ok W) 6 tx2_cells tx2_one Try.underlying22 Try.cells30 (fun _ _ _ h => tx_of_trod h) f1
    simp at e0 e1
    subst e0 e1
    have b0 := bounds_i64 w0
    refine ⟨a0, c1, ys.map Tx2.t, rfl, tx2_at hR hO, ?_, ⟨b0.1, by have := b0.2; omega⟩⟩
    intro t ht
    obtain ⟨y, hy, rfl⟩ := List.mem_map.1 ht
    exact (hO y hy).2.2

set_option maxRecDepth 100000 in
/-- A transaction as an argument. -/
theorem txn_of_trod {H : Type} {enc : TypeId × Value → H} {W : World} {base b2 : Nat} {held : Bool} {v : Value} {d : DataW H} {p : List MemPlace} (hv : Value.okWide Try.prog W .any b2 30 v)
    (h : DataW.Trod enc Try.prog W base (fun _ => true) held 30 v d p) : ∃ (y : Tx2), v = txv y.t y.S1 y.S2 ∧ Tx2Ok W y := by
  obtain ⟨⟨cs⟩, rfl, _⟩ := okWide_struct Try.underlying30 hv
  obtain ⟨fuel, hf⟩ := h
  obtain ⟨y, h1, h2⟩ := tx_of_trod hf
  refine ⟨y, ?_, h1⟩
  have h4 : cs = y.cells := by simpa [Value.cells] using h2
  rw [h4]
  rfl

end Go.Proofs.Ytdnlfacfleemeaa

namespace Go.Proofs.Ytdnlfacfleemeaa
open Go.RowKit Go.Lib

/-- Marks behind a list's end. -/
def vMark (k : Nat) : Vd := ⟨50 + k, 0, emp⟩
def iMark (k : Nat) : Ins := ⟨60 + k, 0, 0, 0, 0, 0, 0, emp⟩
def tMark (k : Nat) : Tx2 := ⟨⟨70 + k, emp, 0, [], emp, []⟩, none, 0, none, 0⟩
def vMarks (n : Nat) : List Vd := (List.range n).map vMark
def iMarks (n : Nat) : List Ins := (List.range n).map iMark
def tMarks (n : Nat) : List Tx2 := (List.range n).map tMark

theorem vMarks_succ (n : Nat) : vMarks (n + 1) = vMarks n ++ [vMark n] := by simp [vMarks, List.range_succ]
theorem iMarks_succ (n : Nat) : iMarks (n + 1) = iMarks n ++ [iMark n] := by simp [iMarks, List.range_succ]
theorem tMarks_succ (n : Nat) : tMarks (n + 1) = tMarks n ++ [tMark n] := by simp [tMarks, List.range_succ]

/-- The lists of a transaction of a twin, with their marks, in blocks from B to before C. -/
structure ZL (B C : Nat) (W : World) (z : Tx2) : Prop where
  x : ∃ g cur, z.a1 = some ⟨g, 0, none⟩ ∧ B ≤ g ∧ g < C ∧ z.t.xs.length + 5 ≤ z.c1 ∧ W.heap[g]? = some (.cells cur 52 (0, 0)) ∧ ∀ (j : Nat) (x : Ins), (z.t.xs ++ iMarks 5)[j]? = some x → InsAt W g (j * 8) x
  v : ∃ g cur, z.a2 = some ⟨g, 0, none⟩ ∧ B ≤ g ∧ g < C ∧ z.t.vs.length + 5 ≤ z.c2 ∧ W.heap[g]? = some (.cells cur 50 (0, 0)) ∧ ∀ (j : Nat) (v : Vd), (z.t.vs ++ vMarks 5)[j]? = some v → VdAt W g (j * 3) v

theorem ZL.keep {B C C' : Nat} {W W' : World} {z : Tx2} {S : Nat → Prop} (h : ZL B C W z) (hC : C ≤ C') (hk : Kept S W W') (hS : ∀ (g : Nat) (cur : Array Value) (t : TypeId), B ≤ g → g < C → W.heap[g]? = some (.cells cur t (0, 0)) → t ≠ 30 → ¬ S g) : ZL B C' W' z := by
  obtain ⟨⟨g, cur, e1, e2, e3, e4, e5, e6⟩, ⟨g', cur', d1, d2, d3, d4, d5, d6⟩⟩ := h
  have s1 := hk.block g (lt_of e5) (hS g cur 52 e2 e3 e5 (by decide))
  have s2 := hk.block g' (lt_of d5) (hS g' cur' 50 d2 d3 d5 (by decide))
  exact ⟨⟨g, cur, e1, e2, by omega, e4, s1.trans e5, fun j x hx => (e6 j x hx).same s1⟩, ⟨g', cur', d1, d2, by omega, d4, s2.trans d5, fun j v hv => (d6 j v hv).same s2⟩⟩

theorem ZL.cd {B C : Nat} {W : World} {z : Tx2} (h : ZL B C W z) : CdAt B W z.S1 z.t.xs := by
  obtain ⟨g, cur, e1, e2, e3, e4, e5, e6⟩ := h.x
  refine ⟨_, _, rfl, by omega, fun _ => ⟨g, 0, e1, e2, fun j x hx => ?_⟩⟩
  rw [Nat.zero_add]
  exact e6 j x (by rw [List.getElem?_append_left (List.getElem?_eq_some_iff.1 hx).1]; exact hx)

theorem ZL.vs {B C : Nat} {W : World} {z : Tx2} (h : ZL B C W z) : VsAt B W z.S2 z.t.vs := by
  obtain ⟨g, cur, e1, e2, e3, e4, e5, e6⟩ := h.v
  refine ⟨_, _, rfl, by omega, fun _ => ⟨g, 0, e1, e2, fun j x hx => ?_⟩⟩
  rw [Nat.zero_add]
  exact e6 j x (by rw [List.getElem?_append_left (List.getElem?_eq_some_iff.1 hx).1]; exact hx)

theorem Try.info52z : (Try.prog.info? 52).map (fun i => (i.zero, i.size, i.bytes)) = some (some (.agg zCells), 8, 72) := by kernel_rfl
theorem Try.info50z : (Try.prog.info? 50).map (fun i => (i.zero, i.size, i.bytes)) = some (some (.agg vCells), 3, 32) := by kernel_rfl
theorem Try.info30z : (Try.prog.info? 30).map (fun i => (i.zero, i.size, i.bytes)) = some (some (.agg tCells), 6, 96) := by kernel_rfl

/-- A batch as a law is handed it. -/
def BatR (W : World) (S : Value) (ys : List Tx2) : Prop := Rf W 6 S ys.length (ys.flatMap Tx2.cells) ∧ ∀ y ∈ ys, Rf W 8 y.S1 y.t.xs.length (y.t.xs.flatMap Ins.cells) ∧ Rf W 3 y.S2 y.t.vs.length (y.t.vs.flatMap Vd.cells) ∧ TxOk y.t

theorem BatR.ts {W : World} {S : Value} {ys : List Tx2} (h : BatR W S ys) : TsAt 0 W S (ys.map Tx2.t) :=
  tx2_at h.1 (fun y hy => ⟨cd_of_code (code_of_rf (h.2 y hy).1), vs_of_rf (h.2 y hy).2.1, (h.2 y hy).2.2⟩)

theorem BatR.below {W W' : World} {S : Value} {ys : List Tx2} (h : BatR W S ys) (hb : Below W.heap.size W W') : BatR W' S ys :=
  ⟨h.1.below hb, fun y hy => ⟨(h.2 y hy).1.below hb, (h.2 y hy).2.1.below hb, (h.2 y hy).2.2⟩⟩

/-- While a twin's list is made. -/
structure Twl (w W : World) (f : Int) (S : Value) (L : Value) (zs : List Tx2) (m : Nat) : Prop where
  r0 : W.heap[w.heap.size]? = some (bo f S)
  r1 : W.heap[w.heap.size + 1]? = some (bo 0 (.slice none 0 0))
  ol : W.ownsRow (w.heap.size + 2) 30 6 L (zs.length + m) ((zs ++ tMarks m).flatMap Tx2.cells)
  zl : ∀ z ∈ zs, ZL (w.heap.size + 2) W.heap.size W z
  hb : Below w.heap.size w W

theorem own_type {W : World} {B : Nat} {e : TypeId} {m : Nat} {v : Value} {n : Nat} {xs : List Value} (h : W.ownsRow B e m v n xs) {g : Nat} (hg : v.ownBlock = some g) : ∃ cur, W.heap[g]? = some (.cells cur e (0, 0)) := by
  rcases h.2 with ⟨rfl, _⟩ | ⟨g', cap, cur, rfl, _, hgg, _⟩
  · simp [Value.ownBlock] at hg
  · simp [Value.ownBlock] at hg
    subst hg
    exact ⟨cur, hgg⟩

theorem kept_grown {W W' : World} {v : Value} (hg : W.grownBy W' v.ownBlock) : Kept (fun k => v.ownBlock = some k) W W' := ⟨hg.os, hg.tape, hg.output, hg.size, fun k hk hn => hg.block k hk (fun e => hn e.symm)⟩

theorem own_keep {W W' : World} {B : Nat} {e e' : TypeId} {m m' : Nat} {v v' : Value} {n n' : Nat} {xs xs' : List Value} {B' : Nat} (h : W.ownsRow B e m v n xs) (h' : W.ownsRow B' e' m' v' n' xs') (hne : e ≠ e') (hg : W.grownBy W' v'.ownBlock) : W'.ownsRow B e m v n xs := by
  refine ownsRow_kept h (kept_grown hg) (fun k hk hk2 => ?_)
  obtain ⟨c1, h1⟩ := own_type h hk
  obtain ⟨c2, h2⟩ := own_type h' hk2
  rw [h1] at h2
  simp at h2
  exact hne h2.2

/-- While one transaction of a twin is made. -/
structure Twi (w wr W : World) (f : Int) (S : Value) (L : Value) (zs : List Tx2) (o : Obj) (A C : Value) (vs : List Vd) (xs : List Ins) : Prop where
  r0 : W.heap[w.heap.size]? = some (bo f S)
  r1 : W.heap[w.heap.size + 1]? = some (bo 0 (.slice none 0 0))
  q : W.heap[wr.heap.size]? = some o
  ol : W.ownsRow (w.heap.size + 2) 30 6 L zs.length (zs.flatMap Tx2.cells)
  ll : ∀ g, L.ownBlock = some g → g < wr.heap.size
  zl : ∀ z ∈ zs, ZL (w.heap.size + 2) wr.heap.size W z
  oa : W.ownsRow (wr.heap.size + 1) 50 3 A vs.length (vs.flatMap Vd.cells)
  oc : W.ownsRow (wr.heap.size + 1) 52 8 C xs.length (xs.flatMap Ins.cells)
  hb : Below w.heap.size w W
  lw : w.heap.size + 1 < wr.heap.size

theorem Twi.below {w wr W W' : World} {f : Int} {S L : Value} {zs : List Tx2} {o : Obj} {A C : Value} {vs : List Vd} {xs : List Ins} (h : Twi w wr W f S L zs o A C vs xs) (hb : Below W.heap.size W W') : Twi w wr W' f S L zs o A C vs xs :=
  ⟨blk_of hb h.r0 (lt_of h.r0), blk_of hb h.r1 (lt_of h.r1), blk_of hb h.q (lt_of h.q), ownsRow_kept h.ol (Kept.ofBelow hb) (fun _ _ h => h), h.ll, fun z hz => (h.zl z hz).keep (Nat.le_refl _) (Kept.ofBelow hb) (fun _ _ _ _ _ _ _ h => h), ownsRow_kept h.oa (Kept.ofBelow hb) (fun _ _ h => h), ownsRow_kept h.oc (Kept.ofBelow hb) (fun _ _ h => h), below_on h.hb hb, h.lw⟩

/-- Something new is appended to the values, to the instructions. -/
theorem Twi.appA {w wr W W' : World} {f : Int} {S L : Value} {zs : List Tx2} {o : Obj} {A A' C : Value} {vs us : List Vd} {xs : List Ins} (h : Twi w wr W f S L zs o A C vs xs) (hown : W'.ownsRow (wr.heap.size + 1) 50 3 A' (vs.length + us.length) (vs.flatMap Vd.cells ++ us.flatMap Vd.cells)) (hg : W.grownBy W' A.ownBlock) :
    Twi w wr W' f S L zs o A' C (vs ++ us) xs := by
  have hw := h.lw
  have hne : ∀ r, r < wr.heap.size + 1 → A.ownBlock ≠ some r := fun r hr e => by have := (h.oa.lt r e).1; omega
  have hk := kept_grown hg
  refine ⟨(hk.block _ (lt_of h.r0) (hne _ (by omega))).trans h.r0, (hk.block _ (lt_of h.r1) (hne _ (by omega))).trans h.r1, (hk.block _ (lt_of h.q) (hne _ (by omega))).trans h.q, own_keep h.ol h.oa (by decide) hg, h.ll, fun z hz => (h.zl z hz).keep (Nat.le_refl _) hk (fun g _ _ _ h1 _ _ => hne g (by omega)), ?_, own_keep h.oc h.oa (by decide) hg, h.hb.trans (hk.below h.hb.size (fun k h1 h2 => hne k (by omega) h2)), hw⟩
  rw [List.flatMap_append, List.length_append]
  exact hown

theorem Twi.appC {w wr W W' : World} {f : Int} {S L : Value} {zs : List Tx2} {o : Obj} {A C C' : Value} {vs : List Vd} {xs us : List Ins} (h : Twi w wr W f S L zs o A C vs xs) (hown : W'.ownsRow (wr.heap.size + 1) 52 8 C' (xs.length + us.length) (xs.flatMap Ins.cells ++ us.flatMap Ins.cells)) (hg : W.grownBy W' C.ownBlock) :
    Twi w wr W' f S L zs o A C' vs (xs ++ us) := by
  have hw := h.lw
  have hne : ∀ r, r < wr.heap.size + 1 → C.ownBlock ≠ some r := fun r hr e => by have := (h.oc.lt r e).1; omega
  have hk := kept_grown hg
  refine ⟨(hk.block _ (lt_of h.r0) (hne _ (by omega))).trans h.r0, (hk.block _ (lt_of h.r1) (hne _ (by omega))).trans h.r1, (hk.block _ (lt_of h.q) (hne _ (by omega))).trans h.q, own_keep h.ol h.oc (by decide) hg, h.ll, fun z hz => (h.zl z hz).keep (Nat.le_refl _) hk (fun g _ _ _ h1 _ _ => hne g (by omega)), own_keep h.oa h.oc (by decide) hg, ?_, h.hb.trans (hk.below h.hb.size (fun k h1 h2 => hne k (by omega) h2)), hw⟩
  rw [List.flatMap_append, List.length_append]
  exact hown

/-- The transaction's own box is written. -/
theorem Twi.put {w wr W W' : World} {f : Int} {S L : Value} {zs : List Tx2} {o o' : Obj} {A C : Value} {vs : List Vd} {xs : List Ins} (h : Twi w wr W f S L zs o A C vs xs) (hk : Kept (fun k => k = wr.heap.size) W W') (ho : W'.heap[wr.heap.size]? = some o') : Twi w wr W' f S L zs o' A C vs xs := by
  have hw := h.lw
  exact ⟨(hk.block _ (lt_of h.r0) (by omega)).trans h.r0, (hk.block _ (lt_of h.r1) (by omega)).trans h.r1, ho, ownsRow_kept h.ol hk (fun k hk2 e => by have := h.ll k hk2; omega), h.ll, fun z hz => (h.zl z hz).keep (Nat.le_refl _) hk (fun g _ _ _ h1 _ _ => by omega), ownsRow_kept h.oa hk (fun k hk2 e => by have := (h.oa.lt k hk2).1; omega), ownsRow_kept h.oc hk (fun k hk2 e => by have := (h.oc.lt k hk2).1; omega), h.hb.trans (hk.below h.hb.size (fun k h1 h2 => by omega)), hw⟩

theorem twi_start {w wr : World} {f : Int} {S L : Value} {zs : List Tx2} (h : Twl w wr f S L zs 0) (o : Obj) : Twi w wr (wr.alloc o) f S L zs o (.slice none 0 0) (.slice none 0 0) [] [] := by
  have hb := below1 wr o
  refine ⟨blk_of hb h.r0 (lt_of h.r0), blk_of hb h.r1 (lt_of h.r1), heap_alloc_new wr o, ?_, fun g hg => (h.ol.lt g hg).2, fun z hz => (h.zl z hz).keep (Nat.le_refl _) (Kept.ofBelow hb) (fun _ _ _ _ _ _ _ h => h), World.ownsRow_nil _ _ _ _, World.ownsRow_nil _ _ _ _, below_on h.hb hb, lt_of h.r1⟩
  have := ownsRow_kept h.ol (Kept.ofBelow hb) (fun _ _ h => h)
  simpa [tMarks] using this

theorem all_oneV (vs : List Vd) : ∀ u ∈ vs.flatMap Vd.cells, u.oneCell' = true := by
  intro u hu
  obtain ⟨x, _, hx⟩ := List.mem_flatMap.1 hu
  exact vd_one x u hx

theorem own_vs {W : World} {B : Nat} {ao : Option Addr} {n c : Nat} {vs : List Vd} (h : W.ownsRow B 50 3 (.slice ao n c) vs.length (vs.flatMap Vd.cells)) (hn : vs.length = n) (h0 : 0 < n) :
    ∃ g cur, ao = some ⟨g, 0, none⟩ ∧ B ≤ g ∧ n ≤ c ∧ W.heap[g]? = some (.cells cur 50 (0, 0)) ∧ ∀ (j : Nat) (v : Vd), vs[j]? = some v → VdAt W g (j * 3) v := by
  have hc := vs_of_rf (rf_of_owns h (all_oneV _))
  rcases h.2 with ⟨e1, e2⟩ | ⟨g, cap, cur, e1, hB, hgg, hle, _⟩
  · injection e1 with _ e3 _
    omega
  · injection e1 with e1 e2 e3
    refine ⟨g, cur, e1, hB, by omega, hgg, ?_⟩
    obtain ⟨ao', cap', e4, _, hx⟩ := hc
    injection e4 with e4 _ _
    obtain ⟨b, off, e5, _, hat⟩ := hx (by intro e; rw [e] at hn; simp at hn; omega)
    rw [← e4, e1] at e5
    injection e5 with e5
    injection e5 with e5 e6 _
    subst e5 e6
    intro j x hx
    have := hat j x hx
    rwa [Nat.zero_add] at this

theorem own_xs {W : World} {B : Nat} {ao : Option Addr} {n c : Nat} {xs : List Ins} (h : W.ownsRow B 52 8 (.slice ao n c) xs.length (xs.flatMap Ins.cells)) (hn : xs.length = n) (h0 : 0 < n) :
    ∃ g cur, ao = some ⟨g, 0, none⟩ ∧ B ≤ g ∧ n ≤ c ∧ W.heap[g]? = some (.cells cur 52 (0, 0)) ∧ ∀ (j : Nat) (x : Ins), xs[j]? = some x → InsAt W g (j * 8) x := by
  have hc := code_of_rf (rf_of_owns h (all_one _))
  rcases h.2 with ⟨e1, e2⟩ | ⟨g, cap, cur, e1, hB, hgg, hle, _⟩
  · injection e1 with _ e3 _
    omega
  · injection e1 with e1 e2 e3
    refine ⟨g, cur, e1, hB, by omega, hgg, ?_⟩
    obtain ⟨ao', cap', e4, _, hx⟩ := hc
    injection e4 with e4 _ _
    obtain ⟨b, off, e5, hat⟩ := hx (by intro e; rw [e] at hn; simp at hn; omega)
    rw [← e4, e1] at e5
    injection e5 with e5
    injection e5 with e5 e6 _
    subst e5 e6
    intro j x hx
    have := hat j x hx
    rwa [Nat.zero_add] at this

theorem marks_len : (vMarks 5).length = 5 ∧ (iMarks 5).length = 5 := by simp [vMarks, iMarks]

/-- It is appended to the list. -/
theorem Twi.close {w wr W W' : World} {f : Int} {S L L' : Value} {zs : List Tx2} {o : Obj} {t : Txd} {aA aC : Option Addr} {cA cC : Nat}
    (h : Twi w wr W f S L zs o (.slice aA (t.vs.length + 5) cA) (.slice aC (t.xs.length + 5) cC) (t.vs ++ vMarks 5) (t.xs ++ iMarks 5))
    (hown : W'.ownsRow (w.heap.size + 2) 30 6 L' (zs.length + 1) (zs.flatMap Tx2.cells ++ [(⟨t, aC, cC, aA, cA⟩ : Tx2)].flatMap Tx2.cells)) (hg : W.grownBy W' L.ownBlock) :
    Twl w W' f S L' (zs ++ [⟨t, aC, cC, aA, cA⟩]) 0 := by
  have hw := h.lw
  have hk := kept_grown hg
  have hl30 : ∀ (g : Nat) (cur : Array Value) (ty : TypeId), W.heap[g]? = some (.cells cur ty (0, 0)) → ty ≠ 30 → L.ownBlock ≠ some g := by
    intro g cur ty h1 h2 h3
    obtain ⟨c, hc⟩ := own_type h.ol h3
    rw [h1] at hc
    simp at hc
    exact h2 hc.2
  have hlo : ∀ r, r < w.heap.size + 2 → L.ownBlock ≠ some r := fun r hr e => by have := (h.ol.lt r e).1; omega
  obtain ⟨m1, m2⟩ := marks_len
  obtain ⟨ga, cura, e1, e2, e3, e4, e5⟩ := own_vs h.oa (by rw [List.length_append, m1]) (by omega)
  obtain ⟨gc, curc, d1, d2, d3, d4, d5⟩ := own_xs h.oc (by rw [List.length_append, m2]) (by omega)
  have sa := hk.block ga (lt_of e4) (hl30 ga cura 50 e4 (by decide))
  have sc := hk.block gc (lt_of d4) (hl30 gc curc 52 d4 (by decide))
  have hsz := hk.size
  have hga := lt_of e4
  have hgc := lt_of d4
  have hwr := lt_of h.q
  refine ⟨(hk.block _ (lt_of h.r0) (hlo _ (by omega))).trans h.r0, (hk.block _ (lt_of h.r1) (hlo _ (by omega))).trans h.r1, ?_, ?_, h.hb.trans (hk.below h.hb.size (fun k h1 h2 => hlo k (by omega) h2))⟩
  · simpa [tMarks] using hown
  · intro z hz
    rcases List.mem_append.1 hz with hz | hz
    · exact (h.zl z hz).keep (by omega) hk (fun g cur ty _ _ h2 h3 => hl30 g cur ty h2 h3)
    · simp at hz
      subst hz
      exact ⟨⟨gc, curc, d1, by omega, by omega, d3, sc.trans d4, fun j x hx => (d5 j x hx).same sc⟩, ⟨ga, cura, e1, by omega, by omega, e3, sa.trans e4, fun j x hx => (e5 j x hx).same sa⟩⟩

/-- Marks behind the list's end. -/
theorem Twl.below {w W W' : World} {f : Int} {S L : Value} {zs : List Tx2} {m : Nat} (h : Twl w W f S L zs m) (hb : Below W.heap.size W W') : Twl w W' f S L zs m :=
  ⟨blk_of hb h.r0 (lt_of h.r0), blk_of hb h.r1 (lt_of h.r1), ownsRow_kept h.ol (Kept.ofBelow hb) (fun _ _ h => h), fun z hz => (h.zl z hz).keep hb.size (Kept.ofBelow hb) (fun _ _ _ _ _ _ _ h => h), below_on h.hb hb⟩

theorem Twl.app {w W W' : World} {f : Int} {S L L' : Value} {zs : List Tx2} {m : Nat} (h : Twl w W f S L zs m) (hown : W'.ownsRow (w.heap.size + 2) 30 6 L' (zs.length + m + 1) ((zs ++ tMarks m).flatMap Tx2.cells ++ [tMark m].flatMap Tx2.cells)) (hg : W.grownBy W' L.ownBlock) : Twl w W' f S L' zs (m + 1) := by
  have hk := kept_grown hg
  have hl30 : ∀ (g : Nat) (cur : Array Value) (ty : TypeId), W.heap[g]? = some (.cells cur ty (0, 0)) → ty ≠ 30 → L.ownBlock ≠ some g := by
    intro g cur ty h1 h2 h3
    obtain ⟨c, hc⟩ := own_type h.ol h3
    rw [h1] at hc
    simp at hc
    exact h2 hc.2
  have hlo : ∀ r, r < w.heap.size + 2 → L.ownBlock ≠ some r := fun r hr e => by have := (h.ol.lt r e).1; omega
  refine ⟨(hk.block _ (lt_of h.r0) (hlo _ (by omega))).trans h.r0, (hk.block _ (lt_of h.r1) (hlo _ (by omega))).trans h.r1, ?_, fun z hz => (h.zl z hz).keep hk.size hk (fun g cur ty _ _ h2 h3 => hl30 g cur ty h2 h3), h.hb.trans (hk.below h.hb.size (fun k h1 h2 => hlo k (by omega) h2))⟩
  rw [← List.flatMap_append, List.append_assoc, ← tMarks_succ] at hown
  exact hown

theorem tx2_get {w : World} {v : Value} {ys : List Tx2} (h : Rf w 6 v ys.length (ys.flatMap Tx2.cells)) {j : Nat} {y : Tx2} (hy : ys[j]? = some y) : ∃ b off cap, v = .slice (some ⟨b, off, none⟩) ys.length cap ∧ TxC w b (off + j * 6) y.t y.S1 y.S2 := by
  have hlt := (List.getElem?_eq_some_iff.1 hy).1
  obtain ⟨b, off, cap', e, _, _, hcell⟩ := h.lits (by omega) (by decide)
  refine ⟨b, off, cap', e, ?_⟩
  have key : ∀ c, c < 6 → w.cell? ⟨b, off + (j * 6 + c), none⟩ = y.cells[c]? := by
    intro c hc
    have hg := flat_get Tx2.cells 6 tx2_cells ys j c hc
    rw [hy] at hg
    simp only [Option.bind_some] at hg
    obtain ⟨u, hu⟩ : ∃ u, y.cells[c]? = some u := ⟨_, List.getElem?_eq_getElem (by rw [tx2_cells]; exact hc)⟩
    rw [hu] at hg ⊢
    exact hcell _ _ hg
  exact ⟨key 0 (by decide), key 1 (by decide), key 2 (by decide), key 3 (by decide), key 4 (by decide), key 5 (by decide)⟩

end Go.Proofs.Ytdnlfacfleemeaa

namespace Go.Proofs.Ytdnlfacfleemeaa
open Go.RowKit Go.Lib

/-- No more than a law plays. -/
def Sma (ts : List Txd) : Prop := ts.length ≤ 300 ∧ ∀ t ∈ ts, t.vs.length ≤ 300 ∧ t.xs.length ≤ 300

instance (ts : List Txd) : Decidable (Sma ts) := by unfold Sma; infer_instance

def LgP (w : World) (ts : List Txd) (e : Ending) (w' : World) : Prop := e = .returned (.bool (!decide (Sma ts))) ∧ Below w.heap.size w w'

theorem take_all {ts : List Txd} {n : Nat} {t : Txd} (h : ∀ u ∈ ts.take n, u.vs.length ≤ 300 ∧ u.xs.length ≤ 300) (ht : ts[n]? = some t) (h2 : t.vs.length ≤ 300 ∧ t.xs.length ≤ 300) : ∀ u ∈ ts.take (n + 1), u.vs.length ≤ 300 ∧ u.xs.length ≤ 300 := by
  intro u hu
  rw [List.take_add_one, ht] at hu
  rcases List.mem_append.1 hu with hu | hu
  · exact h u hu
  · simp at hu
    subst hu
    exact h2

theorem lg_drew {w W : World} {n : Nat} (h : Below w.heap.size w W) : Below w.heap.size w (W.drewN n) := ⟨h.os, h.tape, h.output, h.size, h.block⟩

theorem wrapS {a b : Int} (h0 : 0 ≤ a) (h1 : a ≤ 1000000) (h2 : 0 ≤ b) (h3 : b ≤ 300) : wrap64 (a + b) = a + b := by unfold wrap64; omega

set_option maxRecDepth 100000 in
set_option maxHeartbeats 8000000 in
theorem long_any (B : Nat) (f : Int) (S : Value) (ts : List Txd) (w : World) (h : TsAt B w S ts) : Calls Try.prog 6 #[.agg #[.int .i64 f, S]] w (LgP w ts) := by
  obtain ⟨ao, cap, rfl, hcap, hcells⟩ := h
  have HX := hid hcells
  have hB0 := hid (below1 w (bo f (.slice ao ts.length cap)))
  have HR0 := hid (heap_alloc_new w (bo f (.slice ao ts.length cap)))
  clear hcells
  by_cases hl : ts.length ≤ 300
  · have hd : decide ((300 : Int) < (ts.length : Int)) = false := by simp; omega
    have HLe := hid hl
    clear hl
    go_enter Try.func6, Try.ntmps6
    go_wp2
    go_loopw [3, 4] (fun sx ix wr => ∃ (n : Nat) (s : Int), n ≤ ts.length ∧ ix = .int .i64 n ∧ sx = .int .i64 s ∧ 0 ≤ s ∧ s ≤ 600 * n ∧ Hid (Below w.heap.size w wr ∧ wr.heap[w.heap.size]? = some (bo f (.slice ao ts.length cap))) ∧ Hid (∀ u ∈ ts.take n, u.vs.length ≤ 300 ∧ u.xs.length ≤ 300)) (fun _ ix _ => ts.length - (intOf ix).toNat)
    case atStart => exact ⟨0, 0, Nat.zero_le _, rfl, rfl, by omega, by omega, hid ⟨hB0.out, HR0.out⟩, hid (by simp)⟩
    case round =>
      obtain ⟨n, s, hn, rfl, rfl, hs0, hs1, hP, hpre⟩ := hrel
      obtain ⟨p0, p1, -⟩ := vfacts2 hP.out.2
      have hle := HLe.out
      by_cases hlt : n < ts.length
      · obtain ⟨t, ht⟩ : ∃ t, ts[n]? = some t := ⟨_, List.getElem?_eq_getElem hlt⟩
        obtain ⟨b, off, rfl, -, hat⟩ := HX.out (by intro e; rw [e] at hlt; simp at hlt)
        obtain ⟨S1, S2, hc, hS1, hS2⟩ := hat n t ht
        obtain ⟨d0, d1, d2, d3, d4, d5⟩ := hc.same (hP.out.1.block b hc.lt)
        obtain ⟨a1, cc1, rfl⟩ := hS1.form
        obtain ⟨a2, cc2, rfl⟩ := hS2.form
        have hlt' : (n : Int) < (ts.length : Int) := by omega
        have HTA := hid (fun h2 => take_all hpre.out ht h2)
        have HM := hid (List.mem_of_getElem? ht)
        clear hat hc ht hS1 hS2
        by_cases h1 : t.vs.length ≤ 300
        · have e1 : decide ((300 : Int) < (t.vs.length : Int)) = false := by simp; omega
          by_cases h2 : t.xs.length ≤ 300
          · have e2 : decide ((300 : Int) < (t.xs.length : Int)) = false := by simp; omega
            have HT := hid (HTA.out ⟨h1, h2⟩)
            have w1 : wrap64 (s + (t.vs.length : Int)) = s + t.vs.length := wrapS hs0 (by omega) (by omega) (by omega)
            have w2 : wrap64 (s + (t.vs.length : Int) + (t.xs.length : Int)) = s + t.vs.length + t.xs.length := wrapS (by omega) (by omega) (by omega) (by omega)
            have HB := hid (show 0 ≤ s + (t.vs.length : Int) + (t.xs.length : Int) ∧ s + (t.vs.length : Int) + (t.xs.length : Int) ≤ 600 * ((n + 1 : Nat) : Int) by omega)
            clear hs0 hs1 h1 h2 HTA
            go_upto_region 9 with fail
            go_quiet (fail)
            go_wp2
            go_roundw
            case rel => exact ⟨n + 1, s + t.vs.length + t.xs.length, by omega, by go_num, by go_num, HB.out.1, HB.out.2, hid ⟨lg_drew hP.out.1, hP.out.2⟩, HT⟩
            case measure => simp [intOf]; omega
          · have e2 : (300 : Int) < (t.xs.length : Int) := by omega
            have HNS := hid (show ¬ (t.vs.length ≤ 300 ∧ t.xs.length ≤ 300) by omega)
            clear h1 h2 HTA
            go_wp2
            go_ret
            refine ⟨?_, hP.out.1⟩
            rw [decide_eq_false (fun h => HNS.out (h.2 t HM.out))]
            rfl
        · have e1 : (300 : Int) < (t.vs.length : Int) := by omega
          have HNS := hid (show ¬ (t.vs.length ≤ 300 ∧ t.xs.length ≤ 300) by omega)
          clear h1 HTA
          go_wp2
          go_ret
          refine ⟨?_, hP.out.1⟩
          rw [decide_eq_false (fun h => HNS.out (h.2 t HM.out))]
          rfl
      · have hd4 : decide ((n : Int) < (ts.length : Int)) = false := by simp; omega
        have htk : ts.take n = ts := List.take_of_length_le (by omega)
        rw [htk] at hpre
        have hd5 : decide ((200000 : Int) < s) = false := by simp; omega
        go_wp2
        go_ret
        refine ⟨?_, hP.out.1⟩
        rw [decide_eq_true (show Sma ts from ⟨HLe.out, hpre.out⟩)]
        rfl
  · have hd : (300 : Int) < (ts.length : Int) := by omega
    have HNS := hid hl
    clear hl
    go_enter Try.func6, Try.ntmps6
    go_wp2
    go_ret
    refine ⟨?_, hB0.out⟩
    rw [decide_eq_false (fun h => HNS.out h.1)]
    rfl

end Go.Proofs.Ytdnlfacfleemeaa
