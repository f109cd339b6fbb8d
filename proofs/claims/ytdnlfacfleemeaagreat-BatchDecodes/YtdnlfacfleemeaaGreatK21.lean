import Derived.Test.YtdnlfacfleemeaaGreatK20
import Derived.Test.YtdnlfacfleemeaaGreatK18
namespace Go.Proofs.YtdnlfacfleemeaaGreat
open Go.RowKit Go.Lib

theorem txn_any (p : Nat) (g : Option Nat) (bs : List Int) (a : Nat) (w : World) (h : Rd w p g bs a 0) (hg : ∀ k, g = some k → k < w.heap.size) :
    Calls Tryz.prog 56 #[sv p bs.length] w (TXP p g bs w (tkTx bs a)) := by
  unfold tkTx
  by_cases hE : (takeZ 0 1 bs a 0).2.2 = 0
  · rw [if_pos hE]
    by_cases h1 : (takeZ 0 1 bs a 0).1.1 = 1
    · rw [if_pos h1]
      exact txn_def p g bs a w h hg hE h1
    · rw [if_neg h1]
      by_cases h2 : (takeZ 0 1 bs a 0).1.1 = 2
      · rw [if_pos h2]
        exact txn_call p g bs a w h hg hE h2
      · rw [if_neg h2]
        exact txn_none p g bs a w h hE h1 h2
  · rw [if_neg hE]
    exact txn_err p g bs a w h hE

/-- What take leaves. -/
def TKB (w : World) (r : Except Int (Int × List Txd)) (e : Ending) (w' : World) : Prop :=
  Below w.heap.size w w' ∧ match r with
  | .ok (f, ts) => ∃ S, e = .returned (.agg #[.int .i64 f, S]) ∧ TsAt w.heap.size w' S ts
  | .error E => e = brefu E

def tCells : Array Value := #[.int .i64 0, .string emp, .int .i64 0, .slice none 0 0, .string emp, .slice none 0 0]

theorem Tryz.info30 : (Tryz.prog.info? 30).map (fun i => (i.zero.map Value.cells, i.size, i.bytes)) = some (some tCells, 6, 96) := by kernel_rfl

theorem tmade_at (n j : Nat) (m : Nat) (hj : j < n) (hm : m < 6) : (madeCells tCells (n * 6))[j * 6 + m]? = tCells[m]? := by
  have h1 : j * 6 + m < n * 6 := by omega
  have h2 : (j * 6 + m) % 6 = m := by omega
  unfold madeCells
  rw [Array.getElem?_map, Array.getElem?_range, if_pos h1, Option.map_some, show tCells.size = 6 from rfl, h2]
  rcases (show m = 0 ∨ m = 1 ∨ m = 2 ∨ m = 3 ∨ m = 4 ∨ m = 5 by omega) with rfl | rfl | rfl | rfl | rfl | rfl <;> rfl

theorem make30 (n : Nat) (hn : n ≤ 64) (w : World) : (Instr.makeSlice 22 (.int .i64 n) (.int .i64 n)).run Tryz.prog w = .ok (.slice (some ⟨w.heap.size, 0, none⟩) n n) (w.alloc (.cells (madeCells tCells (n * 6)) 30)) := by
  have h := Tryz.info30
  cases hi : Tryz.prog.info? 30 with
  | none => rw [hi] at h; simp at h
  | some i =>
    rw [hi] at h
    simp only [Option.map_some, Option.some.injEq, Prod.mk.injEq] at h
    obtain ⟨h1, h2, h3⟩ := h
    cases hz : i.zero with
    | none => rw [hz] at h1; simp at h1
    | some z =>
      rw [hz, Option.map_some, Option.some.injEq] at h1
      have := run_make (P := Tryz.prog) w 22 30 i z Tryz.underlying22 hi hz .i64 .i64 (n : Int) (n : Int) (by omega) (Int.le_refl _) (by rw [h3]; omega) (by omega)
      rw [h1, h2] at this
      simpa using this

abbrev zTx : Txd := ⟨0, emp, 0, [], emp, []⟩

theorem made_tx (w : World) (n j : Nat) (hj : j < n) : TxC (w.alloc (.cells (madeCells tCells (n * 6)) 30)) w.heap.size (j * 6) zTx (.slice none 0 0) (.slice none 0 0) := by
  have hb := heap_alloc_new w (.cells (madeCells tCells (n * 6)) 30)
  have h : ∀ m, m < 6 → (w.alloc (.cells (madeCells tCells (n * 6)) 30)).cell? ⟨w.heap.size, j * 6 + m, none⟩ = tCells[m]? := by
    intro m hm
    rw [cell_of_row _ _ _ _ _ _ hb, tmade_at n j m hj hm]
  exact ⟨h 0 (by decide), h 1 (by decide), h 2 (by decide), h 3 (by decide), h 4 (by decide), h 5 (by decide)⟩

/-- While a batch is taken: the result's box, the source's. -/
structure Ta (w W : World) (p : Nat) (bs : List Int) (a s : Nat) : Prop where
  r0 : W.heap[w.heap.size]? = some (bo 0 (.slice none 0 0))
  r1 : W.heap[s]? = some (so p bs.length)
  rd : Rd W p (some (w.heap.size + 1)) bs a 0
  hb : Below w.heap.size w W
  lp : w.heap.size + 1 < p
  ls : p < s

theorem Ta.below {w W W' : World} {p : Nat} {bs : List Int} {a s : Nat} (h : Ta w W p bs a s) (hb : Below W.heap.size W W') : Ta w W' p bs a s :=
  ⟨blk_of hb h.r0 (lt_of h.r0), blk_of hb h.r1 (lt_of h.r1), h.rd.below hb, below_on h.hb hb, h.lp, h.ls⟩

theorem Ta.read {w W W' : World} {p : Nat} {bs : List Int} {a a2 s : Nat} (h : Ta w W p bs a s) (hk : Kept (fun k => k = p) W W') (hr : Rd W' p (some (w.heap.size + 1)) bs a2 0) : Ta w W' p bs a2 s := by
  have := h.lp
  have := h.ls
  exact ⟨(hk.block _ (lt_of h.r0) (by omega)).trans h.r0, (hk.block _ (lt_of h.r1) (by omega)).trans h.r1, hr, h.hb.trans (hk.below h.hb.size (fun k h1 h2 => by omega)), h.lp, h.ls⟩

theorem Ta.errs {w W W' : World} {p : Nat} {bs : List Int} {a s : Nat} (h : Ta w W p bs a s) (hk : Kept (fun k => k = p) W W') : Below w.heap.size w W' := by
  have := h.lp
  exact h.hb.trans (hk.below h.hb.size (fun k h1 h2 => by omega))

/-- Another block is written. -/
theorem Ta.put {w W W' : World} {p : Nat} {bs : List Int} {a s q : Nat} (h : Ta w W p bs a s) (hq : s < q) (hk : Kept (fun k => k = q) W W') : Ta w W' p bs a s := by
  have := h.lp
  have := h.ls
  exact ⟨(hk.block _ (lt_of h.r0) (by omega)).trans h.r0, (hk.block _ (lt_of h.r1) (by omega)).trans h.r1, h.rd.kept hk (by omega) (fun k h1 h2 => by injection h1; omega), h.hb.trans (hk.below h.hb.size (fun k h1 h2 => by omega)), h.lp, h.ls⟩

theorem ta_start {w w1 : World} {p : Nat} {bs : List Int} {o : Obj} (ho : o = so p bs.length) (hp : (w.alloc (bo 0 (.slice none 0 0))).heap.size < p) (hr : Rd w1 p (some (w.alloc (bo 0 (.slice none 0 0))).heap.size) bs 0 0)
    (hb : Below (w.alloc (bo 0 (.slice none 0 0))).heap.size (w.alloc (bo 0 (.slice none 0 0))) w1) : Ta w (w1.alloc o) p bs 0 w1.heap.size := by
  subst ho
  have e : (w.alloc (bo 0 (.slice none 0 0))).heap.size = w.heap.size + 1 := by simp
  have h0 := blk_of hb (heap_alloc_new w (bo 0 (.slice none 0 0))) (by simp)
  rw [e] at hp hr
  have hpl := hr.plt
  have hb' : Below w.heap.size w w1 := (below1 w _).trans (hb.mono (below1 w (bo 0 (.slice none 0 0))).size)
  exact ⟨(Below.heap_alloc _ _ _ (lt_of h0)).trans h0, heap_alloc_new w1 _, hr.below (below1 w1 _), hb'.alloc hb'.size _, hp, hpl⟩

/-- With the batch's own box. -/
structure Tq (w W : World) (p : Nat) (bs : List Int) (a s q : Nat) (o : Obj) : Prop where
  ta : Ta w W p bs a s
  r2 : W.heap[q]? = some o
  lq : s < q

theorem Tq.read {w W W' : World} {p : Nat} {bs : List Int} {a a2 s q : Nat} {o : Obj} (h : Tq w W p bs a s q o) (hk : Kept (fun k => k = p) W W') (hr : Rd W' p (some (w.heap.size + 1)) bs a2 0) : Tq w W' p bs a2 s q o := by
  have := h.ta.ls
  have := h.lq
  exact ⟨h.ta.read hk hr, (hk.block _ (lt_of h.r2) (by omega)).trans h.r2, h.lq⟩

theorem Tq.below {w W W' : World} {p : Nat} {bs : List Int} {a s q : Nat} {o : Obj} (h : Tq w W p bs a s q o) (hb : Below W.heap.size W W') : Tq w W' p bs a s q o :=
  ⟨h.ta.below hb, blk_of hb h.r2 (lt_of h.r2), h.lq⟩

theorem tq_start {w W : World} {p : Nat} {bs : List Int} {a s : Nat} (h : Ta w W p bs a s) (o : Obj) : Tq w (W.alloc o) p bs a s W.heap.size o :=
  ⟨h.below (below1 W o), heap_alloc_new W o, lt_of h.r1⟩

theorem bo_set {W : World} {q : Nat} {f : Int} {S0 : Value} (h : W.heap[q]? = some (bo f S0)) (S : Value) : (W.setCell ⟨q, 1, none⟩ S).heap[q]? = some (bo f S) ∧ Kept (fun k => k = q) W (W.setCell ⟨q, 1, none⟩ S) :=
  ⟨by simp [World.setCell, Array.getElem?_modify, h], (Kept.refl (fun k => k = q) W).setCell (p := ⟨q, 1, none⟩) (fun _ => rfl) _⟩

/-- With the list. -/
structure Tb (w W : World) (p : Nat) (bs : List Int) (a s q tb N : Nat) (f : Int) (ys : List Txd) : Prop where
  tq : Tq w W p bs a s q (bo f (.slice (some ⟨tb, 0, none⟩) N N))
  bk : ∃ cs, W.heap[tb]? = some (.cells cs 30 (0, 0))
  c1 : ∀ (j : Nat) (t : Txd), ys[j]? = some t → TxAt (tb + 1) W tb (j * 6) t
  c2 : ∀ j, ys.length ≤ j → j < N → TxC W tb (j * 6) zTx (.slice none 0 0) (.slice none 0 0)
  lt : q < tb

theorem TxAt.both {B : Nat} {w w' : World} {b o : Nat} {t : Txd} (h : TxAt B w b o t) (hs : Same B w w') (hb : w'.heap[b]? = w.heap[b]?) : TxAt B w' b o t := by
  obtain ⟨S1, S2, h1, h2, h3⟩ := h
  exact ⟨S1, S2, h1.same hb, h2.same hs, h3.same hs⟩

theorem Tb.read {w W W' : World} {p : Nat} {bs : List Int} {a a2 s q tb N : Nat} {f : Int} {ys : List Txd} (h : Tb w W p bs a s q tb N f ys) (hk : Kept (fun k => k = p) W W') (hr : Rd W' p (some (w.heap.size + 1)) bs a2 0) : Tb w W' p bs a2 s q tb N f ys := by
  obtain ⟨cs, hc⟩ := h.bk
  have h1 := h.tq.ta.ls
  have h2 := h.tq.lq
  have h3 := h.lt
  have hs := hk.block _ (lt_of hc) (by omega)
  exact ⟨h.tq.read hk hr, ⟨cs, hs.trans hc⟩, fun j v hv => (h.c1 j v hv).both (Same.kept hk (fun k _ _ => by omega)) hs, fun j h1 h2 => (h.c2 j h1 h2).same hs, h.lt⟩

theorem Tb.below {w W W' : World} {p : Nat} {bs : List Int} {a s q tb N : Nat} {f : Int} {ys : List Txd} (h : Tb w W p bs a s q tb N f ys) (hb : Below W.heap.size W W') : Tb w W' p bs a s q tb N f ys := by
  obtain ⟨cs, hc⟩ := h.bk
  have hs := hb.block _ (lt_of hc)
  exact ⟨h.tq.below hb, ⟨cs, hs.trans hc⟩, fun j v hv => (h.c1 j v hv).both (Same.below hb) hs, fun j h1 h2 => (h.c2 j h1 h2).same hs, h.lt⟩

abbrev put6o (w : World) (r o : Nat) (a b c d e f : Value) : World :=
  (((((w.setCell ⟨r, o, none⟩ a).setCell ⟨r, o + 1, none⟩ b).setCell ⟨r, o + 2, none⟩ c).setCell ⟨r, o + 3, none⟩ d).setCell ⟨r, o + 4, none⟩ e).setCell ⟨r, o + 5, none⟩ f

theorem kept6o (w : World) (r o : Nat) (a b c d e f : Value) : Kept (fun k => k = r) w (put6o w r o a b c d e f) :=
  ((((((Kept.refl (fun k => k = r) w).setCell (p := ⟨r, o, none⟩) (fun _ => rfl) _).setCell (p := ⟨r, o + 1, none⟩) (fun _ => rfl) _).setCell (p := ⟨r, o + 2, none⟩) (fun _ => rfl) _).setCell (p := ⟨r, o + 3, none⟩) (fun _ => rfl) _).setCell (p := ⟨r, o + 4, none⟩) (fun _ => rfl) _).setCell (p := ⟨r, o + 5, none⟩) (fun _ => rfl) _

theorem put6_off {W : World} {b o o' : Nat} (a0 a1 a2 a3 a4 a5 : Value) (hne : o' < o ∨ o + 6 ≤ o') : (put6o W b o a0 a1 a2 a3 a4 a5).cell? ⟨b, o', none⟩ = W.cell? ⟨b, o', none⟩ := by
  rw [cs_off (by omega), cs_off (by omega), cs_off (by omega), cs_off (by omega), cs_off (by omega), cs_off (by omega)]

theorem put6_at {W : World} {b o : Nat} {u : Txd} {T1 T2 : Value} (h : TxC W b o u T1 T2) (t : Txd) (S1 S2 : Value) : TxC (put6o W b o (.int .i64 t.k) (.string t.pn) (.int .i64 t.pa) S1 (.string t.nm) S2) b o t S1 S2 := by
  refine ⟨?_, ?_, ?_, ?_, ?_, ?_⟩
  · rw [cs_off (by omega), cs_off (by omega), cs_off (by omega), cs_off (by omega), cs_off (by omega)]; exact cs_same h.c0
  · rw [cs_off (by omega), cs_off (by omega), cs_off (by omega), cs_off (by omega)]; exact cs_same ((cs_off (by omega) _).trans h.c1)
  · rw [cs_off (by omega), cs_off (by omega), cs_off (by omega)]; exact cs_same ((cs_off (by omega) _).trans ((cs_off (by omega) _).trans h.c2))
  · rw [cs_off (by omega), cs_off (by omega)]; exact cs_same ((cs_off (by omega) _).trans ((cs_off (by omega) _).trans ((cs_off (by omega) _).trans h.c3)))
  · rw [cs_off (by omega)]; exact cs_same ((cs_off (by omega) _).trans ((cs_off (by omega) _).trans ((cs_off (by omega) _).trans ((cs_off (by omega) _).trans h.c4))))
  · exact cs_same ((cs_off (by omega) _).trans ((cs_off (by omega) _).trans ((cs_off (by omega) _).trans ((cs_off (by omega) _).trans ((cs_off (by omega) _).trans h.c5)))))

theorem Tb.set {w W : World} {p : Nat} {bs : List Int} {a s q tb N : Nat} {f : Int} {ys : List Txd} (h : Tb w W p bs a s q tb N f ys) (hm : ys.length < N) (t : Txd) (S1 S2 : Value) (h1 : CdAt (tb + 1) W S1 t.xs) (h2 : VsAt (tb + 1) W S2 t.vs) :
    Tb w (put6o W tb (ys.length * 6) (.int .i64 t.k) (.string t.pn) (.int .i64 t.pa) S1 (.string t.nm) S2) p bs a s q tb N f (ys ++ [t]) := by
  have hk := kept6o W tb (ys.length * 6) (.int .i64 t.k) (.string t.pn) (.int .i64 t.pa) S1 (.string t.nm) S2
  have hl := h.lt
  have hq := h.tq.lq
  have hsm : Same (tb + 1) W (put6o W tb (ys.length * 6) (.int .i64 t.k) (.string t.pn) (.int .i64 t.pa) S1 (.string t.nm) S2) := Same.kept hk (fun k h1 _ => by omega)
  refine ⟨⟨h.tq.ta.put (by omega) hk, (hk.block _ (lt_of h.tq.r2) (by omega)).trans h.tq.r2, hq⟩, blk_set (blk_set (blk_set (blk_set (blk_set (blk_set h.bk))))), ?_, ?_, hl⟩
  · intro j u hu
    by_cases hj : j < ys.length
    · rw [List.getElem?_append_left hj] at hu
      obtain ⟨T1, T2, e1, e2, e3⟩ := h.c1 j u hu
      exact ⟨T1, T2, e1.moved (fun m hm => put6_off _ _ _ _ _ _ (by omega)), e2.same hsm, e3.same hsm⟩
    · have hj2 : j = ys.length := by
        have := (List.getElem?_eq_some_iff.1 hu).1
        simp at this
        omega
      subst hj2
      simp at hu
      subst hu
      exact ⟨S1, S2, put6_at (h.c2 ys.length (Nat.le_refl _) hm) t S1 S2, h1.same hsm, h2.same hsm⟩
  · intro j h1 h2
    simp at h1
    exact (h.c2 j (by omega) h2).moved (fun m hm => put6_off _ _ _ _ _ _ (by omega))

theorem tb_start {w W : World} {p : Nat} {bs : List Int} {a s q N : Nat} {f : Int} {S0 : Value} (h : Tq w W p bs a s q (bo f S0)) :
    Tb w ((W.setCell ⟨q, 1, none⟩ (.slice (some ⟨W.heap.size, 0, none⟩) N N)).alloc (.cells (madeCells tCells (N * 6)) 30)) p bs a s q W.heap.size N f [] := by
  obtain ⟨e1, e2⟩ := bo_set h.r2 (.slice (some ⟨W.heap.size, 0, none⟩) N N)
  have h2 : Tq w (W.setCell ⟨q, 1, none⟩ (.slice (some ⟨W.heap.size, 0, none⟩) N N)) p bs a s q (bo f (.slice (some ⟨W.heap.size, 0, none⟩) N N)) := ⟨h.ta.put h.lq e2, e1, h.lq⟩
  have hz : (W.setCell ⟨q, 1, none⟩ (.slice (some ⟨W.heap.size, 0, none⟩) N N)).heap.size = W.heap.size := by simp [World.setCell]
  have hq := lt_of h.r2
  generalize W.setCell ⟨q, 1, none⟩ (.slice (some ⟨W.heap.size, 0, none⟩) N N) = V at *
  have hb := heap_alloc_new V (.cells (madeCells tCells (N * 6)) 30)
  rw [hz] at hb
  exact ⟨h2.below (below1 V _), ⟨_, hb⟩, fun j v hv => by simp at hv, fun j _ h4 => by have := made_tx V N j h4; rwa [hz] at this, hq⟩

def preT (ys : List Txd) : Except Int (List Txd × Nat) → Except Int (List Txd × Nat)
  | .error E => .error E
  | .ok (xs, a) => .ok (ys ++ xs, a)

theorem preT_ok (bs : List Int) (n a : Nat) (ys : List Txd) (t : Txd) (a2 : Nat) (h : tkTx bs a = .ok (t, a2)) : preT ys (tkTs bs (n + 1) a) = preT (ys ++ [t]) (tkTs bs n a2) := by
  rw [tkTs, h]
  dsimp only
  cases tkTs bs n a2 with
  | error E => rfl
  | ok r => simp [preT]

theorem preT_no (bs : List Int) (n a : Nat) (ys : List Txd) (E : Int) (h : tkTx bs a = .error E) : preT ys (tkTs bs (n + 1) a) = .error E := by
  rw [tkTs, h]
  rfl

set_option maxRecDepth 100000 in
theorem loadB {w : World} {r : Nat} {a b : Value} (hb : w.heap[r]? = some (.cells #[a, b] 24 (0, 0))) : (loadVar 24 ⟨r, 0, none⟩).run Tryz.prog w = .ok (.agg #[a, b]) w := by
  obtain ⟨c0, c1, _⟩ := vfacts2 hb
  simp [go_sem, c0, c1]

theorem retB {fn : Func} {p : Tmp} (h : fn.results = #[.cell p 24]) {tmps : Array Value} {r : Nat} {w : World} {a b : Value} (ht : tmps.getD p undef = .pointer (some ⟨r, 0, none⟩)) (hb : w.heap[r]? = some (.cells #[a, b] 24 (0, 0))) :
    (results fn tmps).run Tryz.prog w = .ok (.agg #[a, b]) w := by
  have ht2 := ht
  simp only [Array.getD_eq_getD_getElem?] at ht2
  simp only [results, h]
  simp [ht2, loadB hb, asAddr]

theorem Tb.fin {w W : World} {p : Nat} {bs : List Int} {a s q tb N : Nat} {f : Int} {ys : List Txd} (h : Tb w W p bs a s q tb N f ys) (hN : ys.length = N) :
    ((W.setCell ⟨w.heap.size, 0, none⟩ (.int .i64 f)).setCell ⟨w.heap.size, 1, none⟩ (.slice (some ⟨tb, 0, none⟩) N N)).heap[w.heap.size]? = some (.cells #[.int .i64 f, .slice (some ⟨tb, 0, none⟩) N N] 24 (0, 0)) ∧
    TKB w (.ok (f, ys)) (.returned (.agg #[.int .i64 f, .slice (some ⟨tb, 0, none⟩) N N])) ((W.setCell ⟨w.heap.size, 0, none⟩ (.int .i64 f)).setCell ⟨w.heap.size, 1, none⟩ (.slice (some ⟨tb, 0, none⟩) N N)) := by
  have hk : Kept (fun k => k = w.heap.size) W ((W.setCell ⟨w.heap.size, 0, none⟩ (.int .i64 f)).setCell ⟨w.heap.size, 1, none⟩ (.slice (some ⟨tb, 0, none⟩) N N)) :=
    ((Kept.refl (fun k => k = w.heap.size) W).setCell (p := ⟨w.heap.size, 0, none⟩) (fun _ => rfl) _).setCell (p := ⟨w.heap.size, 1, none⟩) (fun _ => rfl) _
  have h0 := h.tq.ta.r0
  have h1 := h.tq.ta.lp
  have h2 := h.tq.ta.ls
  have h3 := h.tq.lq
  have h4 := h.lt
  refine ⟨by simp [World.setCell, Array.getElem?_modify, h0], h.tq.ta.hb.trans (hk.below h.tq.ta.hb.size (fun k h1 h2 => by omega)), _, rfl, ?_⟩
  have hs : Same (w.heap.size + 1) W ((W.setCell ⟨w.heap.size, 0, none⟩ (.int .i64 f)).setCell ⟨w.heap.size, 1, none⟩ (.slice (some ⟨tb, 0, none⟩) N N)) := Same.kept hk (fun k h1 _ => by omega)
  refine TsAt.mono (B := w.heap.size + 1) (TsAt.same (w := W) ?_ hs) (by omega)
  subst hN
  exact ⟨_, _, rfl, Nat.le_refl _, fun _ => ⟨tb, 0, rfl, by omega, fun j t ht => by rw [Nat.zero_add]; exact (h.c1 j t ht).mono (by omega)⟩⟩

end Go.Proofs.YtdnlfacfleemeaaGreat

namespace Go.Proofs.YtdnlfacfleemeaaGreat
open Go.RowKit Go.Lib

set_option maxRecDepth 100000 in
set_option maxHeartbeats 8000000 in
theorem btake_any (v : Value) (bs : List Int) (w : World) (h : Sl w v bs) (ho : Oct bs) (hl : bs.length ≤ 1000000000) :
    Calls Tryz.prog 27 #[v] w (TKB w (tkBat bs)) := by
  have HRD := hid (read_any v bs (w.alloc (bo 0 (.slice none 0 0))) (h.below (below1 w _)) ho hl)
  obtain ⟨ao, cap, rfl, hcap, -⟩ := h
  have HN := hid (fun (p : Nat) W (hr : Rd W p (some (w.heap.size + 1)) bs 0 0) => snum_any p bs.length (some (w.heap.size + 1)) bs 0 W hr)
  unfold rdX at HN
  unfold tkBat
  obtain ⟨⟨⟨u1, t1⟩, a1, e1⟩, ht1⟩ : ∃ t, takeZ 1 0 bs 0 0 = t := ⟨_, rfl⟩
  rw [ht1] at HN ⊢
  dsimp only at HN ⊢
  clear ht1
  by_cases he1 : e1 = 0
  · subst he1
    rw [if_pos rfl] at HN ⊢
    unfold SP at HN
    dsimp only at HN
    have HC := hid (fun (p : Nat) W (hr : Rd W p (some (w.heap.size + 1)) bs a1 0) => scount_any p bs.length 64 1 (some (w.heap.size + 1)) bs a1 W hr)
    unfold cntX at HC
    unfold tkBatN
    have bd := takeZ_bd 1 0 bs a1 0 ho
    obtain ⟨⟨⟨u2, t2⟩, a2, e2⟩, ht2⟩ : ∃ t, takeZ 1 0 bs a1 0 = t := ⟨_, rfl⟩
    rw [ht2] at HC bd ⊢
    dsimp only at HC bd ⊢
    have hu0 : 0 ≤ u2 := bd.1
    clear bd ht2 ho
    by_cases he2 : e2 = 0
    · subst he2
      rw [if_pos rfl] at HC ⊢
      by_cases h64 : u2 ≤ 64
      · rw [if_pos h64] at HC ⊢
        unfold SP at HC
        dsimp only at HC
        obtain ⟨N, rfl⟩ : ∃ N : Nat, u2 = N := ⟨u2.toNat, by omega⟩
        have hN : N ≤ 64 := by omega
        rw [Int.toNat_natCast]
        obtain ⟨Z, hZ⟩ : ∃ Z, Z = tkBEnd bs u1 (tkTs bs N a2) := ⟨_, rfl⟩
        have HZ := hid hZ
        rw [← hZ]
        clear hZ h64 hu0
        go_enter Tryz.func27, Tryz.ntmps27
        go_upto_region 4 with (first
          | (go_at_call 53
             refine HRD.out.mono ?_
             rintro e w1 ⟨p, rfl, hp, hr, hb⟩
             have H1 := hid (ta_start (o := so p bs.length) rfl hp hr hb)
             have HNp := hid (HN.out p)
             obtain ⟨p0, p1, -⟩ := vfacts2 (heap_alloc_new w1 (so p bs.length))
             clear hp hr hb)
          | (go_at_call 54
             refine (HNp.out _ H1.out.rd).mono ?_
             rintro e w2 ⟨h2, rfl, h3⟩
             have H2 := hid (tq_start (H1.out.read h2 h3) (bo u1 (.slice none 0 0)))
             obtain ⟨p0, p1, -⟩ := vfacts2 H2.out.ta.r1
             have HCp := hid (HC.out p)
             clear h2 h3)
          | (go_at_call 55
             refine (HCp.out _ H2.out.ta.rd).mono ?_
             rintro e w3 ⟨h4, rfl, h5⟩
             have H3 := hid (H2.out.read h4 h5)
             have hmk := make30 N hN w3
             have H4 := hid (tb_start (N := N) H3.out)
             obtain ⟨q0, q1, qz⟩ := vfacts2 (H3.out.below (below1 w3 (.cells (madeCells tCells (N * 6)) 30))).r2
             have hq2 := lt_of H3.out.r2
             clear h4 h5))
        refine cutG (fun W => Tb w W p bs a2 w1.heap.size w2.heap.size w3.heap.size N u1 []) H4.out ?_
        intro W0 H6
        have H6 := hid H6
        obtain ⟨s, hs⟩ : ∃ s, s = w1.heap.size := ⟨_, rfl⟩
        obtain ⟨q, hq⟩ : ∃ q, q = w2.heap.size := ⟨_, rfl⟩
        obtain ⟨tb, htb⟩ : ∃ tb, tb = w3.heap.size := ⟨_, rfl⟩
        rw [← hs, ← hq, ← htb] at H6
        rw [← hs, ← hq]
        clear H1 H2 H3 H4 HNp HCp HN HC q0 q1 qz hq2 hmk p0 p1
        obtain ⟨q0, q1, qz⟩ := vfacts2 H6.out.tq.r2
        clear hs hq htb
        go_wp2
        go_loopw [21] (fun ix wr => ∃ (m : Nat) (ys : List Txd) (b : Nat), m ≤ N ∧ ix = .int .i64 m ∧ ys.length = m ∧ Hid (Tb w wr p bs b s q tb N u1 ys) ∧ Hid (preT ys (tkTs bs (N - m) b) = tkTs bs N a2)) (fun ix _ => N - (intOf ix).toNat)
        case atStart =>
          refine ⟨0, [], a2, Nat.zero_le _, rfl, rfl, H6, hid ?_⟩
          rw [Nat.sub_zero]
          cases tkTs bs N a2 with
          | error E => rfl
          | ok r => rfl
        case round =>
          clear H6 q0 q1 qz
          obtain ⟨m, ys, b, hm, rfl, hys, hT, hK⟩ := hrel
          obtain ⟨q0, q1, qz⟩ := vfacts2 hT.out.tq.r2
          obtain ⟨p0, p1, pz⟩ := vfacts2 hT.out.tq.ta.r1
          by_cases hlt : m < N
          · have hlt' : (m : Int) < (N : Int) := by omega
            have HV := hid (fun W (hW : Tb w W p bs b s q tb N u1 ys) => txn_any p (some (w.heap.size + 1)) bs b W hW.tq.ta.rd (fun k hk => by have h1 := hW.tq.ta.lp; have h2 := hW.tq.ta.rd.plt; injection hk; omega))
            have hsub : N - m = (N - (m + 1)) + 1 := by omega
            rw [hsub] at hK
            clear hsub
            cases hv : tkTx bs b with
            | error E =>
              rw [hv] at HV
              unfold TXP at HV
              dsimp only at HV
              have hk2 := hK.out
              rw [preT_no bs _ _ _ E hv] at hk2
              have HK2 := hid hk2
              clear hk2 hK hv
              go_upto_region 7 with fail
              go_region_dies
              all_goals (
                refine (HV.out _ (hT.out.below (below_drew wr))).mono ?_
                rintro e w7 ⟨h7, rfl⟩
                refine ⟨rfl, ?_⟩
                rw [HZ.out, ← HK2.out]
                exact ⟨(hT.out.below (below_drew wr)).tq.ta.errs h7, rfl⟩)
            | ok r =>
              obtain ⟨t, b2⟩ := r
              rw [hv] at HV
              unfold TXP at HV
              dsimp only at HV
              have hk2 := hK.out
              rw [preT_ok bs _ _ _ t b2 hv] at hk2
              have HK2 := hid hk2
              clear hk2 hK hv
              go_upto_region 7 with fail
              have lt1 := hT.out.lt
              have lt2 := hT.out.tq.lq
              have nq : tb ≠ q := by omega
              have ns : tb ≠ s := by omega
              clear lt1 lt2
              go_region_with (first
                | (go_at_call 56
                   refine (HV.out _ (hT.out.below (below_drew _))).mono ?_
                   rintro e w7 ⟨h7, S1, S2, rfl, h8, h9, h10⟩
                   have H7 := hid ((hT.out.below (below_drew wr)).read h7 h10)
                   have HS := hid (And.intro (h8.mono (B' := tb + 1) (by obtain ⟨cs, hcs⟩ := hT.out.bk; exact lt_of hcs)) (h9.mono (B' := tb + 1) (by obtain ⟨cs, hcs⟩ := hT.out.bk; exact lt_of hcs)))
                   obtain ⟨a1', c1', rfl⟩ := h8.form
                   obtain ⟨a2', c2', rfl⟩ := h9.form
                   obtain ⟨q0, q1, qz⟩ := vfacts2 H7.out.tq.r2
                   obtain ⟨p0, p1, pz⟩ := vfacts2 H7.out.tq.ta.r1
                   obtain ⟨v0, v1, v2, v3, v4, v5⟩ := H7.out.c2 m (by omega) hlt
                   have vz : ∀ o, w7.frozen? ⟨tb, o, none⟩ = false := fun o => by obtain ⟨cs, hcs⟩ := H7.out.bk; simp [World.frozen?, hcs]
                   clear h7 h8 h9 h10))
              all_goals (
                have HF := hid (H7.out.set (by omega) t _ _ HS.out.1 HS.out.2)
                rw [hys] at HF
                refine cutG (fun W => Tb w W p bs b2 s q tb N u1 (ys ++ [t])) HF.out ?_
                intro W8 H8
                have H8 := hid H8
                clear HF H7 HS q0 q1 qz p0 p1 pz v0 v1 v2 v3 v4 v5 vz
                go_wp2
                go_roundw
                case rel => exact ⟨m + 1, ys ++ [t], b2, by omega, by go_num, by simp [hys], H8, HK2⟩
                case measure => simp [intOf]; omega)
          · have hmN : m = N := by omega
            have hk2 := hK.out
            rw [hmN, Nat.sub_self, tkTs] at hk2
            have HK2 := hid hk2
            have HNN := hid (hys.trans hmN)
            clear hk2 hK hys
            have hd4 : decide ((m : Int) < (N : Int)) = false := by simp; omega
            clear hmN
            have HEn := hid (end_any p (some (w.heap.size + 1)) bs b 0 wr hT.out.tq.ta.rd)
            have HZ2 : Hid (Z = if endZ bs.length b 0 = 0 then .ok (u1, ys) else .error (endZ bs.length b 0)) := hid (by
              rw [HZ.out, ← HK2.out]
              simp [preT, tkBEnd])
            generalize endZ bs.length b 0 = E at *
            by_cases hE : E = 0
            · subst hE
              rw [if_pos rfl] at HZ2
              go_upto_region 10 with (first
                | (go_at_call 57
                   refine HEn.out.mono ?_
                   rintro e w8 ⟨⟨nq, e8⟩, rfl⟩
                   have H8 := hid (hT.out.below (show Below wr.heap.size wr w8 by rw [e8]; exact ⟨rfl, rfl, rfl, Nat.le_refl _, fun _ _ => rfl⟩))
                   clear e8 nq
                   dsimp only)
                | (go_at_call 28; refine (binsist_ok _).mono ?_; rintro e w9 ⟨rfl, e9⟩; rw [e9]; clear e9 w9))
              obtain ⟨q0, q1, qz⟩ := vfacts2 H8.out.tq.r2
              obtain ⟨r0, r1, rz⟩ := vfacts2 H8.out.tq.ta.r0
              have hl1 := H8.out.tq.ta.lp
              have hl2 := H8.out.tq.ta.ls
              have hl3 := H8.out.tq.lq
              go_wp2
              obtain ⟨f1, f2⟩ := H8.out.fin HNN.out
              refine bodyPost_ret (retB Tryz.results27 rfl f1) rfl ?_
              rw [HZ2.out]
              exact f2
            · rw [if_neg hE] at HZ2
              go_wp2_with (first
                | (go_at_call 57
                   refine HEn.out.mono ?_
                   rintro e w8 ⟨⟨nq, e8⟩, rfl⟩
                   have H8 := hid (hT.out.below (show Below wr.heap.size wr w8 by rw [e8]; exact ⟨rfl, rfl, rfl, Nat.le_refl _, fun _ _ => rfl⟩))
                   clear e8 nq
                   dsimp only)
                | (go_at_call 28; refine (binsist_no E hE _).mono ?_; rintro e w9 ⟨rfl, e9⟩; rw [e9]; clear e9 w9))
              refine ⟨rfl, ?_⟩
              rw [HZ2.out]
              exact ⟨H8.out.tq.ta.hb, rfl⟩
      · rw [if_neg h64] at HC ⊢
        unfold SP at HC
        unfold TKB
        dsimp only at HC ⊢
        clear h64 hu0
        go_enter Tryz.func27, Tryz.ntmps27
        go_wp2_with (first
          | (go_at_call 53
             refine HRD.out.mono ?_
             rintro e w1 ⟨p, rfl, hp, hr, hb⟩
             have H1 := hid (ta_start (o := so p bs.length) rfl hp hr hb)
             have HNp := hid (HN.out p)
             obtain ⟨p0, p1, -⟩ := vfacts2 (heap_alloc_new w1 (so p bs.length))
             clear hp hr hb)
          | (go_at_call 54
             refine (HNp.out _ H1.out.rd).mono ?_
             rintro e w2 ⟨h2, rfl, h3⟩
             have H2 := hid (tq_start (H1.out.read h2 h3) (bo u1 (.slice none 0 0)))
             obtain ⟨p0, p1, -⟩ := vfacts2 H2.out.ta.r1
             have HCp := hid (HC.out p)
             clear h2 h3)
          | (go_at_call 55
             refine (HCp.out _ H2.out.ta.rd).mono ?_
             rintro e w3 ⟨h4, rfl⟩
             have H3 := hid (H2.out.ta.errs h4)
             clear h4))
        exact ⟨rfl, H3.out, rfl⟩
    · rw [if_neg he2] at HC ⊢
      unfold SP at HC
      unfold TKB
      dsimp only at HC ⊢
      clear hu0
      go_enter Tryz.func27, Tryz.ntmps27
      go_wp2_with (first
        | (go_at_call 53
           refine HRD.out.mono ?_
           rintro e w1 ⟨p, rfl, hp, hr, hb⟩
           have H1 := hid (ta_start (o := so p bs.length) rfl hp hr hb)
           have HNp := hid (HN.out p)
           obtain ⟨p0, p1, -⟩ := vfacts2 (heap_alloc_new w1 (so p bs.length))
           clear hp hr hb)
        | (go_at_call 54
           refine (HNp.out _ H1.out.rd).mono ?_
           rintro e w2 ⟨h2, rfl, h3⟩
           have H2 := hid (tq_start (H1.out.read h2 h3) (bo u1 (.slice none 0 0)))
           obtain ⟨p0, p1, -⟩ := vfacts2 H2.out.ta.r1
           have HCp := hid (HC.out p)
           clear h2 h3)
        | (go_at_call 55
           refine (HCp.out _ H2.out.ta.rd).mono ?_
           rintro e w3 ⟨h4, rfl⟩
           have H3 := hid (H2.out.ta.errs h4)
           clear h4))
      exact ⟨rfl, H3.out, rfl⟩
  · rw [if_neg he1] at HN ⊢
    unfold SP at HN
    unfold TKB
    dsimp only at HN ⊢
    clear ho
    go_enter Tryz.func27, Tryz.ntmps27
    go_wp2_with (first
      | (go_at_call 53
         refine HRD.out.mono ?_
         rintro e w1 ⟨p, rfl, hp, hr, hb⟩
         have H1 := hid (ta_start (o := so p bs.length) rfl hp hr hb)
         have HNp := hid (HN.out p)
         obtain ⟨p0, p1, -⟩ := vfacts2 (heap_alloc_new w1 (so p bs.length))
         clear hp hr hb)
      | (go_at_call 54
         refine (HNp.out _ H1.out.rd).mono ?_
         rintro e w2 ⟨h2, rfl⟩
         have H2 := hid (H1.out.errs h2)
         clear h2))
    exact ⟨rfl, H2.out, rfl⟩

end Go.Proofs.YtdnlfacfleemeaaGreat
