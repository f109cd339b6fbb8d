import Derived.Test.YtdnlfacfleemeaaGreatK32
import Derived.Test.YtdnlfacfleemeaaGreatK31
import Derived.StillTailTactics
import Derived.StillTail
import Derived.Deep.RegionHeld3
import Derived.StillTactics
namespace Go.Proofs.YtdnlfacfleemeaaGreat
open Go.RowKit Go.Lib

theorem rtaken_any (ao : Option Addr) (cc : Nat) (bs : List Int) (a : Nat) (st : Int) (x : Ins) (c : Int) (w : World) (h : Sl w (.slice ao bs.length cc) bs) (ho : Oct bs) (hl : bs.length ≤ 1000000000) (ha : a ≤ bs.length)
    (hc : c = 65 ∨ c = 66 ∨ c = 67 ∨ c = 97 ∨ c = 78 ∨ c = 86) :
    Calls Tryz.prog 84 #[.agg #[.slice ao bs.length cc, .int .i64 a, .int .i64 0, .int .i64 st], x.val, .int .u8 c] w (TLPost (.slice ao bs.length cc) w (tkL bs c x a)) := by
  rcases hc with rfl | rfl | rfl | rfl | rfl | rfl
  · exact taken_a ao cc bs a st x w h ho hl ha
  · exact taken_b ao cc bs a st x w h ho hl ha
  · exact taken_c ao cc bs a st x w h ho hl ha
  · exact taken_s ao cc bs a st x w h ho hl ha
  · exact taken_n ao cc bs a st x w h ho hl ha
  · exact taken_v ao cc bs a st x w h ho hl ha

theorem fdS_lets (op : Int) (h : 1 ≤ op ∧ op ≤ 16) : ∀ c ∈ strBs (fdS op), c = 65 ∨ c = 66 ∨ c = 67 ∨ c = 97 ∨ c = 78 ∨ c = 86 := by
  rcases op_cases op with rfl | rfl | rfl | rfl | rfl | rfl | rfl | rfl | rfl | rfl | rfl | rfl | rfl | rfl | rfl | rfl | h2
  case inr.inr.inr.inr.inr.inr.inr.inr.inr.inr.inr.inr.inr.inr.inr.inr => exact absurd h h2
  all_goals simp [fdS, strBs]

theorem tkVal_le (bs : List Int) (ho : Oct bs) (a a2 : Nat) (d : Int × Int × List Int) (ha : a ≤ bs.length) (h : tkVal bs bs.length a = .ok (d, a2)) : a2 ≤ bs.length := by
  have h3 := takeZ_le 3 (bs.length : Int) bs a 0 ho ha
  unfold tkVal at h
  split at h
  · split at h
    · injection h with h
      injection h with _ h
      omega
    · cases h
  · cases h

theorem tkL_le (bs : List Int) (ho : Oct bs) (c : Int) (x y : Ins) (a a2 : Nat) (ha : a ≤ bs.length) (h : tkL bs c x a = .ok (y, a2)) : a2 ≤ bs.length := by
  have h0 := takeZ_le 0 1 bs a 0 ho ha
  have h1 := takeZ_le 1 0 bs a 0 ho ha
  have hv := fun a3 d => tkVal_le bs ho a a3 d ha
  unfold tkL at h
  cases ht : tkVal bs bs.length a with
  | error E =>
    rw [ht] at h
    (repeat' split at h) <;> first | (exfalso; simp_all; done) | (injection h with h; injection h with _ h; omega) | (simp_all; done)
  | ok r =>
    obtain ⟨d, a3⟩ := r
    have := hv a3 d ht
    rw [ht] at h
    (repeat' split at h) <;> first | (exfalso; simp_all; done) | (injection h with h; injection h with _ h; omega) | (simp_all; done)

/-- Within the document's Decode: the answer's block, the Reader's, the procedure's. -/
structure Dcs (w W : World) (v : Value) (a : Nat) (e st : Int) (nm : ByteArray) (ar : Int) (S : Value) (r q : Nat) : Prop where
  res : W.heap[w.heap.size]? = some (po emp 0 (.slice none 0 0))
  rr : W.heap[r]? = some (.cells #[v, .int .i64 a, .int .i64 e, .int .i64 st] 74 (0, 0))
  rp : W.heap[q]? = some (po nm ar S)
  lt : w.heap.size < r ∧ r < q
  hb : Below w.heap.size w W

theorem Dcs.below {w W W' : World} {v : Value} {a : Nat} {e st : Int} {nm : ByteArray} {ar : Int} {S : Value} {r q : Nat} (h : Dcs w W v a e st nm ar S r q) (hb : Below W.heap.size W W') : Dcs w W' v a e st nm ar S r q :=
  ⟨blk_of hb h.res (lt_of h.res), blk_of hb h.rr (lt_of h.rr), blk_of hb h.rp (lt_of h.rp), h.lt, below_on h.hb hb⟩

theorem Dcs.reader {w W : World} {v : Value} {a : Nat} {e st : Int} {nm : ByteArray} {ar : Int} {S : Value} {r q : Nat} (h : Dcs w W v a e st nm ar S r q) (v2 : Value) (a2 : Nat) (e2 st2 : Int) : Dcs w (put4 W r v2 (.int .i64 a2) (.int .i64 e2) (.int .i64 st2)) v2 a2 e2 st2 nm ar S r q := by
  have k := put4_kept W r v2 (.int .i64 a2) (.int .i64 e2) (.int .i64 st2)
  have := h.lt
  exact ⟨(k.block _ (lt_of h.res) (by omega)).trans h.res, set4 h.rr _ _ _ _, (k.block _ (lt_of h.rp) (by omega)).trans h.rp, h.lt, h.hb.trans (k.below h.hb.size (fun q hq e => by omega))⟩

theorem Dcs.cell {w W : World} {v : Value} {a : Nat} {e st : Int} {nm nm2 : ByteArray} {ar ar2 : Int} {S S2 : Value} {r q : Nat} (h : Dcs w W v a e st nm ar S r q) (o : Nat) (u : Value) (hy : (W.setCell ⟨q, o, none⟩ u).heap[q]? = some (po nm2 ar2 S2)) : Dcs w (W.setCell ⟨q, o, none⟩ u) v a e st nm2 ar2 S2 r q := by
  have k := (Kept.refl (fun k => k = q) W).setCell (p := ⟨q, o, none⟩) (fun _ => rfl) u
  have := h.lt
  exact ⟨(k.block _ (lt_of h.res) (by omega)).trans h.res, (k.block _ (lt_of h.rr) (by omega)).trans h.rr, hy, h.lt, h.hb.trans (k.below h.hb.size (fun q hq e => by omega))⟩

theorem dcs_start {w w1 : World} (v : Value) (hb : Below (w.alloc (po emp 0 (.slice none 0 0))).heap.size (w.alloc (po emp 0 (.slice none 0 0))) w1) :
    Dcs w ((w1.alloc (.cells #[v, .int .i64 0, .int .i64 0, .int .i64 0] 74)).alloc (po emp 0 (.slice none 0 0))) v 0 0 0 emp 0 (.slice none 0 0) w1.heap.size (w1.heap.size + 1) := by
  have h0 := blk_of hb (heap_alloc_new w (po emp 0 (.slice none 0 0))) (by simp)
  have b2 := below2 w1 (.cells #[v, .int .i64 0, .int .i64 0, .int .i64 0] 74) (po emp 0 (.slice none 0 0))
  exact ⟨blk_of b2 h0 (lt_of h0), two1 w1 _ _, two2 w1 _ _, ⟨lt_of h0, by omega⟩, below_on (below_on (below1 w _) hb) b2⟩

theorem ret18 {fn : Func} {p u : Tmp} (h : fn.results = #[.cell p 27, .tmp u]) {tmps : Array Value} {r : Nat} {w : World} {a b c : Value} (ht : tmps.getD p undef = .pointer (some ⟨r, 0, none⟩)) (hb : w.heap[r]? = some (.cells #[a, b, c] 27 (0, 0))) :
    (results fn tmps).run Tryz.prog w = .ok (.tuple #[.agg #[a, b, c], tmps.getD u undef]) w := by
  rw [results_cell_tmp h, ht]
  simp [Result.andThen, load24 hb, asAddr]

theorem Dcs.fin {w W : World} {v : Value} {a : Nat} {e st : Int} {nm : ByteArray} {ar : Int} {S : Value} {r q : Nat} (h : Dcs w W v a e st nm ar S r q) (x y z : Value) :
    (((W.setCell ⟨w.heap.size, 0, none⟩ x).setCell ⟨w.heap.size, 1, none⟩ y).setCell ⟨w.heap.size, 2, none⟩ z).heap[w.heap.size]? = some (.cells #[x, y, z] 27 (0, 0)) ∧ Below w.heap.size w (((W.setCell ⟨w.heap.size, 0, none⟩ x).setCell ⟨w.heap.size, 1, none⟩ y).setCell ⟨w.heap.size, 2, none⟩ z) :=
  ⟨set3 h.res x y z, Below.set3 h.hb (Nat.le_refl _) x y z⟩

/-- A row whose block bears a type. -/
def Ty (e : TypeId) (w : World) (S : Value) : Prop := ∀ k, S.ownBlock = some k → ∃ cur, w.heap[k]? = some (.cells cur e (0, 0))

theorem ty_own {W : World} {B : Nat} {e : TypeId} {m : Nat} {v : Value} {n : Nat} {xs : List Value} (h : W.ownsRow B e m v n xs) : Ty e W v := by
  intro g hg
  rcases h.2 with ⟨rfl, _⟩ | ⟨g', cap, cur, rfl, _, hgg, _⟩
  · simp [Value.ownBlock] at hg
  · simp [Value.ownBlock] at hg
    subst hg
    exact ⟨cur, hgg⟩

theorem ty_nil (e : TypeId) (w : World) : Ty e w (.slice none 0 0) := fun k hk => by simp [Value.ownBlock] at hk

theorem Ty.kept {e : TypeId} {w w' : World} {S : Value} {P : Nat → Prop} (h : Ty e w S) (hk : Kept P w w') (hn : ∀ k, S.ownBlock = some k → ¬ P k) : Ty e w' S := by
  intro k hk2
  obtain ⟨cur, hc⟩ := h k hk2
  exact ⟨cur, (hk.block k (lt_of hc) (hn k hk2)).trans hc⟩

/-- What the document's Decode leaves. -/
def RDPost (w : World) (r : Except Int (List Int × Int × List Ins)) (e : Ending) (w' : World) : Prop :=
  Below w.heap.size w w' ∧ match r with
  | .ok (nm, ar, xs) => ∃ S, e = .returned (.tuple #[.agg #[.string (mkStr nm), .int .i64 ar, S], .int .i64 0]) ∧ CodeAt w' S xs ∧ Ty 53 w' S
  | .error E => e = .returned (.tuple #[.agg #[.string emp, .int .i64 0, .slice none 0 0], .int .i64 E])

end Go.Proofs.YtdnlfacfleemeaaGreat

namespace Go.Proofs.YtdnlfacfleemeaaGreat
open Go.RowKit Go.Lib

/-- And the instructions read so far. -/
structure Dcl (w W : World) (v : Value) (a : Nat) (e st : Int) (nm : ByteArray) (ar : Int) (S : Value) (r q : Nat) (ys : List Ins) : Prop where
  cs : Dcs w W v a e st nm ar S r q
  ow : W.ownsRow (q + 1) 53 8 S ys.length (ys.flatMap Ins.cells)

theorem Dcl.below {w W W' : World} {v : Value} {a : Nat} {e st : Int} {nm : ByteArray} {ar : Int} {S : Value} {r q : Nat} {ys : List Ins} (h : Dcl w W v a e st nm ar S r q ys) (hb : Below W.heap.size W W') : Dcl w W' v a e st nm ar S r q ys :=
  ⟨h.cs.below hb, ownsRow_kept h.ow (Kept.ofBelow hb) (fun _ _ h => h)⟩

theorem Dcl.reader {w W : World} {v : Value} {a : Nat} {e st : Int} {nm : ByteArray} {ar : Int} {S : Value} {r q : Nat} {ys : List Ins} (h : Dcl w W v a e st nm ar S r q ys) (v2 : Value) (a2 : Nat) (e2 st2 : Int) : Dcl w (put4 W r v2 (.int .i64 a2) (.int .i64 e2) (.int .i64 st2)) v2 a2 e2 st2 nm ar S r q ys :=
  ⟨h.cs.reader v2 a2 e2 st2, ownsRow_kept h.ow (put4_kept W r _ _ _ _) (fun k hk e => by have := (h.ow.lt k hk).1; have := h.cs.lt; omega)⟩

theorem Dcl.code {w W : World} {v : Value} {a : Nat} {e st : Int} {nm : ByteArray} {ar : Int} {S : Value} {r q : Nat} {ys : List Ins} (h : Dcl w W v a e st nm ar S r q ys) : CodeAt W S ys := code_of_rf (rf_of_owns h.ow (all_one _))

theorem Dcl.done {w W : World} {v : Value} {a : Nat} {e st : Int} {nm : ByteArray} {ar : Int} {S : Value} {r q : Nat} {ys : List Ins} (h : Dcl w W v a e st nm ar S r q ys) (x y z : Value) : CodeAt (((W.setCell ⟨w.heap.size, 0, none⟩ x).setCell ⟨w.heap.size, 1, none⟩ y).setCell ⟨w.heap.size, 2, none⟩ z) S ys := by
  have k := (((Kept.refl (fun k => k = w.heap.size) W).setCell (p := ⟨w.heap.size, 0, none⟩) (fun _ => rfl) x).setCell (p := ⟨w.heap.size, 1, none⟩) (fun _ => rfl) y).setCell (p := ⟨w.heap.size, 2, none⟩) (fun _ => rfl) z
  have hlt := h.cs.lt
  exact code_of_rf (rf_of_owns (ownsRow_kept h.ow k (fun j hj e => by have := (h.ow.lt j hj).1; omega)) (all_one _))

theorem Dcl.doneT {w W : World} {v : Value} {a : Nat} {e st : Int} {nm : ByteArray} {ar : Int} {S : Value} {r q : Nat} {ys : List Ins} (h : Dcl w W v a e st nm ar S r q ys) (x y z : Value) : Ty 53 (((W.setCell ⟨w.heap.size, 0, none⟩ x).setCell ⟨w.heap.size, 1, none⟩ y).setCell ⟨w.heap.size, 2, none⟩ z) S := by
  have k := (((Kept.refl (fun k => k = w.heap.size) W).setCell (p := ⟨w.heap.size, 0, none⟩) (fun _ => rfl) x).setCell (p := ⟨w.heap.size, 1, none⟩) (fun _ => rfl) y).setCell (p := ⟨w.heap.size, 2, none⟩) (fun _ => rfl) z
  have hlt := h.cs.lt
  exact (ty_own h.ow).kept k (fun j hj e => by have := (h.ow.lt j hj).1; omega)

theorem Dcl.grown {w W W1 : World} {v : Value} {a : Nat} {e st : Int} {nm : ByteArray} {ar : Int} {S : Value} {r q : Nat} {ys : List Ins} {o : Obj} (h : Dcl w W v a e st nm ar S r q ys) (hg : (W.alloc o).grownBy W1 S.ownBlock) : Dcs w W1 v a e st nm ar S r q := by
  have h1 := h.below (below1 W o)
  have hlt := h.cs.lt
  have hne : ∀ k, k < q + 1 → S.ownBlock ≠ some k := fun k hk e => by have := (h.ow.lt k e).1; omega
  exact ⟨(hg.block _ (lt_of h1.cs.res) (fun e => hne _ (by omega) e.symm)).trans h1.cs.res, (hg.block _ (lt_of h1.cs.rr) (fun e => hne _ (by omega) e.symm)).trans h1.cs.rr, (hg.block _ (lt_of h1.cs.rp) (fun e => hne _ (by omega) e.symm)).trans h1.cs.rp, h1.cs.lt, h1.cs.hb.grown hg h1.cs.hb.size (fun k hk => by have := (h1.ow.lt k hk).1; omega)⟩

theorem Dcl.app {w W W1 : World} {v : Value} {a : Nat} {e st : Int} {nm : ByteArray} {ar : Int} {S S' : Value} {r q : Nat} {ys : List Ins} {x : Ins} {o : Obj} (h : Dcl w W v a e st nm ar S r q ys)
    (hown : W1.ownsRow (q + 1) 53 8 S' (ys.length + 1) (ys.flatMap Ins.cells ++ [x].flatMap Ins.cells)) (hg : (W.alloc o).grownBy W1 S.ownBlock) : Dcl w (W1.setCell ⟨q, 2, none⟩ S') v a e st nm ar S' r q (ys ++ [x]) := by
  have h1 := h.below (below1 W o)
  have hlt := h.cs.lt
  have hne : ∀ k, k < q + 1 → S.ownBlock ≠ some k := fun k hk e => by have := (h.ow.lt k e).1; omega
  have d : Dcs w W1 v a e st nm ar S r q := ⟨(hg.block _ (lt_of h1.cs.res) (fun e => hne _ (by omega) e.symm)).trans h1.cs.res, (hg.block _ (lt_of h1.cs.rr) (fun e => hne _ (by omega) e.symm)).trans h1.cs.rr, (hg.block _ (lt_of h1.cs.rp) (fun e => hne _ (by omega) e.symm)).trans h1.cs.rp, h1.cs.lt, h1.cs.hb.grown hg h1.cs.hb.size (fun k hk => by have := (h1.ow.lt k hk).1; omega)⟩
  have k := (Kept.refl (fun k => k = q) W1).setCell (p := ⟨q, 2, none⟩) (fun _ => rfl) S'
  refine ⟨d.cell 2 S' (po_set2 d.rp), ownsRow_kept ?_ k (fun j hj e => by have := (hown.lt j hj).1; omega)⟩
  rw [List.length_append, List.flatMap_append]
  exact hown

/-- And the instruction that is read now. -/
structure Dcx (w W : World) (v : Value) (a : Nat) (e st : Int) (nm : ByteArray) (ar : Int) (S : Value) (r q : Nat) (ys : List Ins) (rx : Nat) (x : Ins) : Prop where
  cl : Dcl w W v a e st nm ar S r q ys
  xb : W.heap[rx]? = some (io x.op x.a x.b x.c x.n x.k x.i x.t)
  lt : q < rx
  own : ∀ k, S.ownBlock = some k → k < rx

theorem Dcx.below {w W W' : World} {v : Value} {a : Nat} {e st : Int} {nm : ByteArray} {ar : Int} {S : Value} {r q : Nat} {ys : List Ins} {rx : Nat} {x : Ins} (h : Dcx w W v a e st nm ar S r q ys rx x) (hb : Below W.heap.size W W') : Dcx w W' v a e st nm ar S r q ys rx x :=
  ⟨h.cl.below hb, blk_of hb h.xb (lt_of h.xb), h.lt, h.own⟩

theorem dcx_start {w W : World} {v : Value} {a : Nat} {e st : Int} {nm : ByteArray} {ar : Int} {S : Value} {r q : Nat} {ys : List Ins} (h : Dcl w W v a e st nm ar S r q ys) (x : Ins) : Dcx w (W.alloc (io x.op x.a x.b x.c x.n x.k x.i x.t)) v a e st nm ar S r q ys W.heap.size x :=
  ⟨h.below (below1 W _), heap_alloc_new W _, lt_of h.cs.rp, fun k hk => (h.ow.lt k hk).2⟩

theorem Dcx.both {w W : World} {v : Value} {a : Nat} {e st : Int} {nm : ByteArray} {ar : Int} {S : Value} {r q : Nat} {ys : List Ins} {rx : Nat} {x : Ins} (h : Dcx w W v a e st nm ar S r q ys rx x) (v2 : Value) (a2 : Nat) (e2 st2 : Int) (y : Ins) :
    Dcx w (put8 (put4 W r v2 (.int .i64 a2) (.int .i64 e2) (.int .i64 st2)) rx 0 y) v2 a2 e2 st2 nm ar S r q ys rx y := by
  have hlt := h.cl.cs.lt
  have hx := h.lt
  have h1 := h.cl.reader v2 a2 e2 st2
  have x1 := ((put4_kept W r v2 (.int .i64 a2) (.int .i64 e2) (.int .i64 st2)).block _ (lt_of h.xb) (by omega)).trans h.xb
  generalize put4 W r v2 (.int .i64 a2) (.int .i64 e2) (.int .i64 st2) = W1 at h1 x1
  have k := put8_kept W1 rx 0 y
  exact ⟨⟨⟨(k.block _ (lt_of h1.cs.res) (by omega)).trans h1.cs.res, (k.block _ (lt_of h1.cs.rr) (by omega)).trans h1.cs.rr, (k.block _ (lt_of h1.cs.rp) (by omega)).trans h1.cs.rp, h1.cs.lt, h1.cs.hb.trans (k.below h1.cs.hb.size (fun j hj e => by omega))⟩,
    ownsRow_kept h1.ow k (fun j hj e => by have := h.own j hj; omega)⟩, io_set8 x1 y, h.lt, h.own⟩

end Go.Proofs.YtdnlfacfleemeaaGreat

namespace Go.Proofs.YtdnlfacfleemeaaGreat
open Go.RowKit Go.Lib

theorem st_skip {P : Program} {ops : Array Oper} {w : World} {Q : Act → Prop} {o : Oper} {rest : List Oper} {a : Act} (h : Region.wanted o (yielded ops a.tmps) = false) (k : wpStill P ops w Q rest (a.put o.dst undef)) : wpStill P ops w Q (o :: rest) a := by
  unfold wpStill
  rw [if_neg (by rw [h]; decide)]
  exact k

theorem st_val {P : Program} {ops : Array Oper} {w : World} {Q : Act → Prop} {o : Oper} {rest : List Oper} {a : Act} (v : Value) (h : Region.wanted o (yielded ops a.tmps) = true) (e : (execOp a.eval o).run P w = .ok (.value v) w) (k : wpStill P ops w Q rest (a.put o.dst v)) : wpStill P ops w Q (o :: rest) a := by
  unfold wpStill
  rw [if_pos h]
  unfold Oper.still
  rw [e, Oper.stillUpon_value]
  exact k

theorem exec_neq (F2 : Int) (hF2 : (F2 == 0) = false) (ρ : Operand → Value) (o : Oper) (t x : Nat) (ho : o.op = .binOp BinOp.neq 33 (.tmp x) (.const (.int .i64 0)) t) (hx : ρ (.tmp x) = .int .i64 F2) (hy : ρ (.const (.int .i64 0)) = .int .i64 0) (W : World) : (execOp ρ o).run Tryz.prog W = .ok (.value (.bool true)) W := by
  unfold execOp
  rw [ho]
  dsimp only
  rw [hx, hy]
  go_simp
  simpa using hF2


theorem ev_self {a : Act} {d : Nat} {v : Value} (h : d < a.tmps.size) : (a.put (some d) v).eval (.tmp d) = v := by simp [Act.put, Act.eval, h]
theorem sz_put {a : Act} {d : Option Nat} {v : Value} {n : Nat} (h : n < a.tmps.size) : n < (a.put d v).tmps.size := by
  cases d <;> simp [Act.put, h]

/-! The operations of the law's last statement. -/
def o0 (s : String) : Oper := { dst := some 87, op := Op.move (Operand.tmp 15), type := 33, pos := s, after := #[], guard := none }
def o1 (s : String) : Oper := { dst := some 88, op := Op.binOp BinOp.neq 33 (Operand.tmp 87) (Operand.const (Value.int IntKind.i64 0)) 33, type := 4, pos := s, after := #[{ on := 0, ground := Ground.data }], guard := none }
def o2 (s : String) : Oper := { dst := some 89, op := Op.move (Operand.tmp 88), type := 4, pos := s, after := #[{ on := 1, ground := Ground.data }], guard := none }
def o3 (s : String) : Oper := { dst := some 90, op := Op.move (Operand.tmp 9), type := 39, pos := s, after := #[{ on := 2, ground := Ground.guard }], guard := some (2, false) }
def o4 (s : String) : Oper := { dst := some 91, op := Op.move (Operand.tmp 14), type := 39, pos := s, after := #[{ on := 2, ground := Ground.guard }], guard := some (2, false) }
def o5 (s : String) : Oper := { dst := some 92, op := Op.call { callee := Callee.value (Operand.func 14), args := #[Operand.tmp 90, Operand.tmp 91], argTypes := #[39, 39] }, type := 4, pos := s, after := #[{ on := 3, ground := Ground.data }, { on := 4, ground := Ground.data }, { on := 2, ground := Ground.chain }, { on := 2, ground := Ground.guard }], guard := some (2, false) }
def o6 (s : String) : Oper := { dst := some 93, op := Op.load 53 (Operand.tmp 4), type := 53, pos := s, after := #[{ on := 2, ground := Ground.guard }], guard := some (2, false) }
def o7 (s : String) : Oper := { dst := some 94, op := Op.fieldAddr 27 (Operand.tmp 3) 2, type := 0, pos := s, after := #[{ on := 2, ground := Ground.guard }], guard := some (2, false) }
def o8 (s : String) : Oper := { dst := some 95, op := Op.load 25 (Operand.tmp 94), type := 25, pos := s, after := #[{ on := 7, ground := Ground.data }, { on := 2, ground := Ground.guard }], guard := some (2, false) }
def o9 (s : String) : Oper := { dst := some 96, op := Op.move (Operand.tmp 2), type := 3, pos := s, after := #[{ on := 2, ground := Ground.guard }], guard := some (2, false) }
def o10 (s : String) : Oper := { dst := some 97, op := Op.indexAddr 25 (Operand.tmp 95) (Operand.tmp 96), type := 0, pos := s, after := #[{ on := 8, ground := Ground.data }, { on := 9, ground := Ground.data }, { on := 2, ground := Ground.guard }], guard := some (2, false) }
def o11 (s : String) : Oper := { dst := some 98, op := Op.load 53 (Operand.tmp 97), type := 53, pos := s, after := #[{ on := 10, ground := Ground.data }, { on := 2, ground := Ground.guard }], guard := some (2, false) }
def o12 (s : String) : Oper := { dst := some 99, op := Op.binOp BinOp.eql 53 (Operand.tmp 93) (Operand.tmp 98) 53, type := 4, pos := s, after := #[{ on := 6, ground := Ground.data }, { on := 11, ground := Ground.data }, { on := 2, ground := Ground.guard }], guard := some (2, false) }
def o13 (s : String) : Oper := { dst := some 100, op := Op.binOp BinOp.eql 4 (Operand.tmp 92) (Operand.tmp 99) 4, type := 4, pos := s, after := #[{ on := 5, ground := Ground.data }, { on := 12, ground := Ground.data }, { on := 2, ground := Ground.guard }], guard := some (2, false) }
def o14 (s : String) : Oper := { dst := some 101, op := Op.pick (Operand.tmp 89) (Operand.const (Value.bool true)) (Operand.tmp 100), type := 4, pos := s, after := #[{ on := 2, ground := Ground.data }, { on := 13, ground := Ground.data }], guard := none }
def o15 (s : String) : Oper := { dst := some 168, op := Op.move (Operand.tmp 101), type := 4, pos := s, after := #[{ on := 14, ground := Ground.data }, { on := 5, ground := Ground.chain }], guard := none }
def o16 (s : String) : Oper := { dst := some 103, op := Op.call { callee := Callee.value (Operand.func 13), args := #[], argTypes := #[] }, type := 4, pos := s, after := #[{ on := 15, ground := Ground.chain }, { on := 15, ground := Ground.guard }], guard := some (15, true) }
def o17 (s : String) : Oper := { dst := some 104, op := Op.pick (Operand.tmp 168) (Operand.tmp 103) (Operand.const (Value.bool false)), type := 4, pos := s, after := #[{ on := 15, ground := Ground.data }, { on := 16, ground := Ground.data }], guard := none }
def o18 (s : String) : Oper := { dst := some 6, op := Op.assign (Operand.tmp 104), type := 4, pos := s, after := #[{ on := 17, ground := Ground.data }, { on := 16, ground := Ground.chain }, { on := 0, ground := Ground.phase }, { on := 1, ground := Ground.phase }, { on := 2, ground := Ground.phase }, { on := 3, ground := Ground.phase }, { on := 4, ground := Ground.phase }, { on := 5, ground := Ground.phase }, { on := 6, ground := Ground.phase }, { on := 7, ground := Ground.phase }, { on := 8, ground := Ground.phase }, { on := 9, ground := Ground.phase }, { on := 10, ground := Ground.phase }, { on := 11, ground := Ground.phase }, { on := 12, ground := Ground.phase }, { on := 13, ground := Ground.phase }, { on := 14, ground := Ground.phase }, { on := 15, ground := Ground.phase }, { on := 16, ground := Ground.phase }, { on := 17, ground := Ground.phase }], guard := none }
def ops20 (s : String) : List Oper := [o0 s, o1 s, o2 s, o3 s, o4 s, o5 s, o6 s, o7 s, o8 s, o9 s, o10 s, o11 s, o12 s, o13 s, o14 s, o15 s, o16 s, o17 s, o18 s]

theorem y_of {s : String} {a : Act} {b : Bool} (h : a.tmps[89]? = some (.bool b)) : yielded (ops20 s).toArray a.tmps 2 = some b := by
  unfold yielded
  rw [show ((ops20 s).toArray[2]?).bind (·.dst) = some 89 from rfl]
  simp [h]

theorem t_self {a : Act} {d : Nat} {v : Value} (h : d < a.tmps.size) : (a.put (some d) v).tmps[d]? = some v := by simp [Act.put, h]

theorem t_put {a : Act} {d : Nat} {v x : Value} (hd : 89 ≠ d) (h : a.tmps[89]? = some x) : (a.put (some d) v).tmps[89]? = some x := by
  simp only [Act.put]
  rw [Array.getElem?_setIfInBounds_ne (by omega)]
  exact h

theorem no20 {s : String} {a : Act} {o : Oper} (h : a.tmps[89]? = some (.bool true)) (ho : o.guard = some (2, false)) : Region.wanted o (yielded (ops20 s).toArray a.tmps) = false := by
  unfold Region.wanted
  rw [ho]
  simp [y_of h]

theorem pick20 {a : Act} {o : Oper} {W : World} {t : Nat} (h : a.tmps[89]? = some (.bool true)) (ho : o.op = .pick (.tmp 89) (.const (.bool true)) (.tmp t) := by rfl) : (execOp a.eval o).run Tryz.prog W = .ok (.value (.bool true)) W := by
  have e : a.eval (.tmp 89) = .bool true := by simp [Act.eval, h]
  unfold execOp
  rw [ho]
  dsimp only
  rw [e]
  rfl

theorem mov20 {a : Act} {o : Oper} {W : World} (h : 101 < a.tmps.size) (ho : o.op = .move (.tmp 101) := by rfl) : (execOp (a.put (some 101) (.bool true)).eval o).run Tryz.prog W = .ok (.value (.bool true)) W := by
  have e : (a.put (some 101) (.bool true)).eval (.tmp 101) = .bool true := ev_self h
  unfold execOp
  rw [ho]
  dsimp only
  rw [e]
  rfl

theorem sk20 {P : Program} {ops : Array Oper} {w : World} {Q : Act → Prop} {o : Oper} {rest : List Oper} {a : Act} (d : Nat) (hd : o.dst = some d) (h : Region.wanted o (yielded ops a.tmps) = false) (k : wpStill P ops w Q rest (a.put (some d) undef)) : wpStill P ops w Q (o :: rest) a := st_skip h (by rw [hd]; exact k)
theorem vl20 {P : Program} {ops : Array Oper} {w : World} {Q : Act → Prop} {o : Oper} {rest : List Oper} {a : Act} (d : Nat) (v : Value) (hd : o.dst = some d) (hg : o.guard = none) (e : (execOp a.eval o).run P w = .ok (.value v) w) (k : wpStill P ops w Q rest (a.put (some d) v)) : wpStill P ops w Q (o :: rest) a := st_val v (by unfold Region.wanted; rw [hg]) e (by rw [hd]; exact k)

theorem mv20 {a : Act} {o : Oper} {W : World} {v : Value} (t : Nat) (ho : o.op = .move (.tmp t)) (e : a.eval (.tmp t) = v) : (execOp a.eval o).run Tryz.prog W = .ok (.value v) W := by
  unfold execOp
  rw [ho]
  dsimp only
  rw [e]
  rfl

/-- The eleven that are struck out. -/
def putL (L : List Oper) (a : Act) : Act := L.foldl (fun a o => a.put o.dst undef) a
def L11 (s : String) : List Oper := [o3 s, o4 s, o5 s, o6 s, o7 s, o8 s, o9 s, o10 s, o11 s, o12 s, o13 s]

theorem mid20 (s : String) (W : World) (Q : Act → Prop) (rest : List Oper) : ∀ (L : List Oper) (a : Act), (∀ o ∈ L, o.guard = some (2, false) ∧ ∃ d, o.dst = some d ∧ 89 ≠ d) → a.tmps[89]? = some (.bool true) → wpStill Tryz.prog (ops20 s).toArray W Q rest (putL L a) → wpStill Tryz.prog (ops20 s).toArray W Q (L ++ rest) a
  | [], _, _, _, hk => hk
  | o :: L, a, h, t, hk => by
    obtain ⟨hg, d, hd, hn⟩ := h o List.mem_cons_self
    refine sk20 d hd (no20 t hg) ?_
    refine mid20 s W Q rest L _ (fun o' ho' => h o' (List.mem_cons_of_mem _ ho')) (t_put hn t) ?_
    have e : putL (o :: L) a = putL L (a.put (some d) undef) := by unfold putL; rw [List.foldl_cons, hd]
    rw [← e]
    exact hk

theorem putL_at : ∀ (L : List Oper) (a : Act), (∀ o ∈ L, o.guard = some (2, false) ∧ ∃ d, o.dst = some d ∧ 89 ≠ d) → a.tmps[89]? = some (.bool true) → (putL L a).tmps[89]? = some (.bool true)
  | [], _, _, t => t
  | o :: L, a, h, t => by
    obtain ⟨_, d, hd, hn⟩ := h o List.mem_cons_self
    have e : putL (o :: L) a = putL L (a.put (some d) undef) := by unfold putL; rw [List.foldl_cons, hd]
    rw [e]
    exact putL_at L _ (fun o' ho' => h o' (List.mem_cons_of_mem _ ho')) (t_put hn t)

theorem putL_sz (n : Nat) : ∀ (L : List Oper) (a : Act), n < a.tmps.size → n < (putL L a).tmps.size
  | [], _, h => h
  | o :: L, a, h => by
    have e : putL (o :: L) a = putL L (a.put o.dst undef) := rfl
    rw [e]
    exact putL_sz n L _ (sz_put h)

theorem L11_ok (s : String) : ∀ o ∈ L11 s, o.guard = some (2, false) ∧ ∃ d, o.dst = some d ∧ 89 ≠ d := by
  intro o ho
  simp only [L11, List.mem_cons, List.not_mem_nil, or_false] at ho
  rcases ho with rfl | rfl | rfl | rfl | rfl | rfl | rfl | rfl | rfl | rfl | rfl
  · exact ⟨rfl, 90, rfl, by decide⟩
  · exact ⟨rfl, 91, rfl, by decide⟩
  · exact ⟨rfl, 92, rfl, by decide⟩
  · exact ⟨rfl, 93, rfl, by decide⟩
  · exact ⟨rfl, 94, rfl, by decide⟩
  · exact ⟨rfl, 95, rfl, by decide⟩
  · exact ⟨rfl, 96, rfl, by decide⟩
  · exact ⟨rfl, 97, rfl, by decide⟩
  · exact ⟨rfl, 98, rfl, by decide⟩
  · exact ⟨rfl, 99, rfl, by decide⟩
  · exact ⟨rfl, 100, rfl, by decide⟩

def a3 (a : Act) (F2 : Int) : Act := ((a.put (some 87) (.int .i64 F2)).put (some 88) (.bool true)).put (some 89) (.bool true)
def a16 (s : String) (a : Act) (F2 : Int) : Act := ((putL (L11 s) (a3 a F2)).put (some 101) (.bool true)).put (some 168) (.bool true)

theorem pre20 (s : String) (a : Act) (W : World) (F2 : Int) (hF2 : (F2 == 0) = false) (hs : 104 < a.tmps.size) (h15 : a.eval (.tmp 15) = .int .i64 F2) (Q : Act → Prop) (rest : List Oper) (hk : wpStill Tryz.prog (ops20 s).toArray W Q rest (a3 a F2)) : wpStill Tryz.prog (ops20 s).toArray W Q (o0 s :: o1 s :: o2 s :: rest) a := by
  refine vl20 87 (.int .i64 F2) rfl rfl (mv20 15 rfl h15) ?_
  have h87 : (a.put (some 87) (.int .i64 F2)).eval (.tmp 87) = .int .i64 F2 := ev_self (by omega)
  have h88 : 88 < (a.put (some 87) (.int .i64 F2)).tmps.size := sz_put (by omega)
  unfold a3 at hk
  generalize a.put (some 87) (.int .i64 F2) = b at *
  refine vl20 88 (.bool true) rfl rfl (exec_neq F2 hF2 _ _ _ 87 rfl h87 rfl _) ?_
  have h89 : (b.put (some 88) (.bool true)).eval (.tmp 88) = .bool true := ev_self h88
  generalize b.put (some 88) (.bool true) = c at *
  exact vl20 89 (.bool true) rfl rfl (mv20 88 rfl h89) hk

theorem post20 (s : String) (b : Act) (W : World) (Q : Act → Prop) (t : b.tmps[89]? = some (.bool true)) (hz : 101 < b.tmps.size) (hQ : Q ((b.put (some 101) (.bool true)).put (some 168) (.bool true))) : wpStill Tryz.prog (ops20 s).toArray W Q [o14 s, o15 s] b := by
  refine vl20 101 (.bool true) rfl rfl (pick20 t rfl) ?_
  have h1 : (b.put (some 101) (.bool true)).eval (.tmp 101) = .bool true := ev_self hz
  generalize b.put (some 101) (.bool true) = c at *
  exact vl20 168 (.bool true) rfl rfl (mv20 101 rfl h1) (wpStill_nil hQ)

theorem take20 (s : String) : (ops20 s).take 16 = o0 s :: o1 s :: o2 s :: (L11 s ++ [o14 s, o15 s]) := rfl

theorem head20 (s : String) (a : Act) (W : World) (F2 : Int) (hF2 : (F2 == 0) = false) (hs : 104 < a.tmps.size) (h15 : a.eval (.tmp 15) = .int .i64 F2) (Q : Act → Prop) (hQ : Q (a16 s a F2)) : wpStill Tryz.prog (ops20 s).toArray W Q ((ops20 s).take 16) a := by
  have h89 : 89 < ((a.put (some 87) (.int .i64 F2)).put (some 88) (.bool true)).tmps.size := sz_put (sz_put (by omega))
  have t : (a3 a F2).tmps[89]? = some (.bool true) := t_self h89
  have hz : 101 < (a3 a F2).tmps.size := sz_put (sz_put (sz_put (by omega)))
  rw [take20]
  refine pre20 s a W F2 hF2 hs h15 Q _ ?_
  unfold a16 at hQ
  generalize a3 a F2 = b at *
  refine mid20 s W Q _ (L11 s) b (L11_ok s) t ?_
  have t2 := putL_at _ _ (L11_ok s) t
  have z2 := putL_sz _ (L11 s) _ hz
  generalize putL (L11 s) b = c at *
  exact post20 s c W Q t2 z2 hQ

end Go.Proofs.YtdnlfacfleemeaaGreat

namespace Go.Proofs.YtdnlfacfleemeaaGreat
open Go.RowKit Go.Lib

theorem put_some (a : Act) (d : Nat) (v : Value) : a.put (some d) v = { tmps := a.tmps.setIfInBounds d v, defers := a.defers } := rfl


end Go.Proofs.YtdnlfacfleemeaaGreat

namespace Go.Proofs.YtdnlfacfleemeaaGreat
open Go

section
variable {P : Program} {ops : Array Oper} {md : Region.Mode} {w : World}

/-- Each operation behind n waits for one that is n or behind it. -/
def behB (md : Region.Mode) (ops : Array Oper) (n : Nat) : Bool :=
  (List.range ops.size).all fun t => decide (t ≤ n) || (List.range t).any fun j => decide (n ≤ j) && Region.waitsFor md ops t j

theorem beh_waits {n : Nat} {listed : Array Bool} (hs : Region.sinkB md ops n = true) (hc : behB md ops n = true) (hn : n < ops.size) (inv : HeadInv md ops n listed)
    (i : Nat) (hi : i < n) (hun : listed.getD i true = false) (t : Nat) (ht : n ≤ t) : t ∉ Region.ready md ops listed := by
  intro hr
  obtain ⟨_, ot, hot, hall⟩ := mem_ready.1 hr
  have htlt : t < ops.size := (Array.getElem?_eq_some_iff.1 hot).1
  have h1 := List.all_eq_true.1 hc t (List.mem_range.2 htlt)
  simp only [Bool.or_eq_true, decide_eq_true_eq] at h1
  rcases h1 with h1 | h1
  · obtain rfl : t = n := by omega
    clear h1 hc
    have key : ∀ d i, t - i = d → i < t → listed.getD i true = false → False := by
      intro d
      induction d using Nat.strongRecOn with
      | _ d ih =>
        intro i hd hi hun
        obtain ⟨j, hj, hj2⟩ := List.any_eq_true.1 (List.all_eq_true.1 hs i (List.mem_range.2 hi))
        simp only [Bool.and_eq_true, decide_eq_true_eq] at hj2
        obtain ⟨oj, hoj, e, he, hb, hon⟩ := Region.waitsFor_spec hj2.2
        have hjm := List.mem_range.1 hj
        by_cases hl : listed.getD j false = true
        · have h2 := inv.closed j oj hoj hl e he hb
          rw [hon, getD_both hun] at h2
          cases h2
        · by_cases hjt : j = t
          · subst hjt
            obtain rfl : oj = ot := Option.some.inj (hoj.symm.trans hot)
            have h2 := hall e he hb
            rw [hon, getD_both hun] at h2
            cases h2
          · have hjs : j < listed.size := by rw [inv.size]; omega
            exact ih (t - j) (by omega) j rfl (by omega) (getD_in hjs (by simpa using hl))
    exact key _ i rfl hi hun
  · obtain ⟨j, hj, hj2⟩ := List.any_eq_true.1 h1
    have hjt := List.mem_range.1 hj
    simp only [Bool.and_eq_true, decide_eq_true_eq] at hj2
    obtain ⟨o', ho', e, he, hb, hon⟩ := Region.waitsFor_spec hj2.2
    obtain rfl : o' = ot := Option.some.inj (ho'.symm.trans hot)
    have h2 := hall e he hb
    rw [hon, getD_both (inv.tail j hj2.1 (by omega))] at h2
    cases h2

theorem anyL_first {n i : Nat} {oi : Oper} {v : Value} {L : Array Bool → Act → Prop} (hi : ops[i]? = some oi) (hsel : ∀ (j : Nat) (o : Oper) cs b, ops[j]? = some o → o.op ≠ .select cs b)
    (hs : Region.sinkB md ops n = true) (hc : behB md ops n = true) (hn : n < ops.size) (hin : i < n)
    (hdone : ∀ listed a, L listed a → ∀ j ∈ Region.ready md ops listed, n ≤ j) :
    ∀ (f : Nat) (listed : Array Bool) (a : Act), HeadInv md ops n listed →
      (∀ j oj, ops[j]? = some oj → j ≠ i → listed.getD j true = false → (∀ e ∈ oj.after, Region.binds md e = true → e.on ≠ i) → oi.apart ops oj = true) →
      i ∈ Region.ready md ops listed → YieldsAt P ops w oi v a →
      wpAnyL P md ops w n L f (listed.setIfInBounds i true) (a.put oi.dst v) → wpAnyL P md ops w n L (f + 1) listed a := by
  intro f
  induction f with
  | zero =>
    intro listed a inv _ hr hy H
    refine ⟨List.ne_nil_of_mem hr, fun j hj => ?_⟩
    have hjn : j < n := Nat.lt_of_not_le fun h => beh_waits hs hc hn inv i hin (mem_ready.1 hr).1 j h hj
    refine ⟨hjn, ?_⟩
    by_cases hji : j = i
    · subst hji
      exact hy.stOp hi H
    · exact absurd (hdone _ _ H j (ready_mono hj hji)) (by omega)
  | succ f ih =>
    intro listed a inv hfree hr hy H
    have hun := (mem_ready.1 hr).1
    refine ⟨List.ne_nil_of_mem hr, fun j hj => ?_⟩
    have hjn : j < n := Nat.lt_of_not_le fun h => beh_waits hs hc hn inv i hin hun j h hj
    refine ⟨hjn, ?_⟩
    by_cases hji : j = i
    · subst hji
      exact hy.stOp hi H
    · obtain ⟨hjun, oj, hoj, hall⟩ := mem_ready.1 hj
      have hnot : ∀ e ∈ oj.after, Region.binds md e = true → e.on ≠ i := fun e he hb heq => by
        have h1 := hall e he hb
        rw [heq, getD_both hun] at h1
        cases h1
      have h2 := stOp_put hoj (hfree j oj hoj hji hjun hnot) (fun cs b => hsel i oi cs b hi) (fun cs b => hsel j oj cs b hoj) hy (H.2 j (ready_mono hj hji)).2
      refine stOp_mono (fun a' h3 => ih (listed.setIfInBounds j true) a' (inv.set hj hjn) (fun k ok hk hki hunk hno => hfree k ok hk hki ?_ hno) (ready_mono hr (Ne.symm hji)) h3.1 ?_) h2
      · by_cases hjk : j = k
        · subst hjk
          exact hjun
        · rwa [getD_set_ne true hjk] at hunk
      · rw [Array.setIfInBounds_comm _ _ hji]
        exact h3.2

/-- The first f operations from k on come up in their order, each free. -/
def headB (md : Region.Mode) (ops : Array Oper) : Nat → Nat → Array Bool → Bool
  | 0, _, _ => true
  | f + 1, k, listed => (Region.ready md ops listed).contains k && Region.free md ops listed k && headB md ops f (k + 1) (listed.setIfInBounds k true)

def headL : Nat → Nat → Array Bool → Array Bool
  | 0, _, listed => listed
  | f + 1, k, listed => headL f (k + 1) (listed.setIfInBounds k true)

theorem anyL_lex {n : Nat} {Lq : Act → Prop} (hsel : Region.noSelect ops = true) (hs : Region.sinkB md ops n = true) (hc : behB md ops n = true) (hn : n < ops.size) (fin : Array Bool)
    (hfin : ∀ j ∈ Region.ready md ops fin, n ≤ j) :
    ∀ (l : List Oper) (k : Nat) (listed : Array Bool) (a : Act), (∀ j, j < l.length → l[j]? = ops[k + j]?) → k + l.length = n → HeadInv md ops n listed →
    headB md ops l.length k listed = true → headL l.length k listed = fin → wpStill P ops w Lq l a →
    wpAnyL P md ops w n (fun listed' a' => listed' = fin ∧ Lq a') l.length listed a
  | [], _, _, _, _, _, _, _, hf, h => ⟨hf, h⟩
  | o :: l, k, listed, a, hl, hk, inv, hB, hf, h => by
    have h0 : ops[k]? = some o := by simpa using (hl 0 (by simp)).symm
    simp only [List.length_cons, headB, Bool.and_eq_true] at hB
    obtain ⟨⟨hr, hfr⟩, hB'⟩ := hB
    simp only [List.length_cons] at hk
    have hkn : k < n := by omega
    have hr' : k ∈ Region.ready md ops listed := by simpa using hr
    have hst : stOp P ops w k (wpStill P ops w Lq l) a := by unfold stOp; simp only [h0]; exact h
    obtain ⟨v, hy, hK⟩ := yieldsAt_of_stOp h0 hst
    exact anyL_first h0 (Region.noSelect_spec hsel) hs hc hn hkn (fun listed' a' hL => by rw [hL.1]; exact hfin) l.length listed a inv (Region.free_spec h0 hfr) hr' hy
      (anyL_lex hsel hs hc hn fin hfin l (k + 1) _ _ (fun j hj => by have := hl (j + 1) (by simp; omega); simpa [Nat.add_assoc, Nat.add_comm 1 j] using this) (by omega) (inv.set hr' hkn) hB' hf hK)

/-- All that head_any asks of a region. -/
def headAll (md : Region.Mode) (ops : Array Oper) (n : Nat) : Bool :=
  Region.noSelect ops && decide (n < ops.size) && Region.sinkB md ops n && behB md ops n && headB md ops n 0 (Array.replicate ops.size false) &&
    (Region.ready md ops (headL n 0 (Array.replicate ops.size false))).all fun j => decide (n ≤ j)

/-- A drawn region whose first n operations only read, and all others wait for the n-th: the first n in their order, then the rest in any. -/
theorem wp_head_any {id : Nat} {Q : Exit → Act → World → Prop} {a : Act} {w : World} {l : List Oper} (n g : Nat) (fin : Array Bool) (hm : P.follows .mixedOrders = true) (hB : headAll .any l.toArray n = true) (hg : l.length = n + g) (hf : headL n 0 (Array.replicate l.length false) = fin)
    (h : wpStill P l.toArray w.drew (fun a' => wpAnyH P .any l.toArray Q (fun _ => True) g fin a' w.drew) (l.take n) a) : (Code.region id l.toArray true).wp P Q a w := by
  simp only [headAll, Bool.and_eq_true, decide_eq_true_eq, List.all_eq_true] at hB
  obtain ⟨⟨⟨⟨⟨hsel, hn⟩, hs⟩, hc⟩, hlex⟩, hfin⟩ := hB
  have hsz : l.toArray.size = l.length := by simp
  rw [hsz] at hlex hfin
  rw [hf] at hfin
  have htl : (l.take n).length = n := by simp; omega
  have inv0 : HeadInv .any l.toArray n (Array.replicate l.length false) :=
    ⟨by simp, fun j oj _ hl => (by rw [getD_replicate_false] at hl; cases hl), fun t _ ht => getD_in (by simpa using ht) (getD_replicate_false _ _)⟩
  have H := anyL_lex (P := P) (w := w.drew) hsel hs hc hn _ hfin (l.take n) 0 (Array.replicate l.length false) a (fun j hj => by
    have hj' : j < n := by rw [htl] at hj; exact hj
    simp [hj']) (by simpa using htl) inv0 (by rw [htl]; exact hlex) (by rw [htl]; exact hf) h
  refine wp_region_any hm ?_
  have := wpAny_of_head (Q' := Q) (g := g) (fun listed a' hL => by
    rw [hL.1]
    exact wpAny_of_held _ _ _ _ hL.2) _ _ _ H
  rw [htl, ← hg] at this
  rw [hsz]
  exact this
end
end Go.Proofs.YtdnlfacfleemeaaGreat
