import Derived.Test.YtdnlfacfleemeaaGreatK24
import Derived.Test.YtdnlfacfleemeaaGreatK15
import Derived.Test.YtdnlfacfleemeaaGreatK16
import Derived.Test.YtdnlfacfleemeaaGreatK29
namespace Go.Proofs.YtdnlfacfleemeaaGreat
open Go.RowKit Go.Lib

/-- An instruction behind a list's end. -/
def markI (i : Int) : Ins := ⟨wrap64 (77 + i), -1, 0, 0, 0, 9, 0, ⟨#[109, 97, 114, 107]⟩⟩

/-- While a twin is made. -/
structure Tws (w W : World) (nm : ByteArray) (ar : Int) (S L : Value) (ys : List Ins) : Prop where
  r0 : W.heap[w.heap.size]? = some (po nm ar S)
  r1 : W.heap[w.heap.size + 1]? = some (po emp 0 (.slice none 0 0))
  ow : W.ownsRow (w.heap.size + 1 + 1) 53 8 L ys.length (ys.flatMap Ins.cells)
  hb : Below w.heap.size w W

theorem Tws.below {w W W' : World} {nm : ByteArray} {ar : Int} {S L : Value} {ys : List Ins} (h : Tws w W nm ar S L ys) (hb : Below W.heap.size W W') : Tws w W' nm ar S L ys :=
  ⟨blk_of hb h.r0 (lt_of h.r0), blk_of hb h.r1 (lt_of h.r1), ownsRow_kept h.ow (Kept.ofBelow hb) (fun _ _ h => h), below_on h.hb hb⟩

theorem Tws.app {w W W1 : World} {nm : ByteArray} {ar : Int} {S L L' : Value} {ys zs : List Ins} (h : Tws w W nm ar S L ys) (hown : W1.ownsRow (w.heap.size + 1 + 1) 53 8 L' (ys.length + zs.length) (ys.flatMap Ins.cells ++ zs.flatMap Ins.cells)) (hg : W.grownBy W1 L.ownBlock) :
    Tws w W1 nm ar S L' (ys ++ zs) := by
  have hne : ∀ r, r < w.heap.size + 1 + 1 → L.ownBlock ≠ some r := fun r hr e => by have := (h.ow.lt r e).1; omega
  refine ⟨(hg.block _ (lt_of h.r0) (fun e => hne _ (by omega) e.symm)).trans h.r0, (hg.block _ (lt_of h.r1) (fun e => hne _ (by omega) e.symm)).trans h.r1, ?_, h.hb.grown hg h.hb.size (fun k hk => by have := (h.ow.lt k hk).1; omega)⟩
  rw [← List.flatMap_append] at hown
  rw [List.length_append]
  exact hown

theorem Tws.row {w W : World} {nm : ByteArray} {ar : Int} {S L : Value} {ys : List Ins} {n : Nat} {o : Obj} (h : Tws w W nm ar S L ys) (hn : ys.length = n) : (W.alloc o).ownsRow (w.heap.size + 1 + 1) 53 8 L n (ys.flatMap Ins.cells) := by
  rw [← hn]
  exact h.ow.alloc _

theorem Tws.base {w W : World} {nm : ByteArray} {ar : Int} {S L : Value} {ys : List Ins} (h : Tws w W nm ar S L ys) (o : Obj) : w.heap.size + 1 + 1 ≤ (W.alloc o).heap.size := by
  have := lt_of h.r1
  simp
  omega

theorem rf_new (w : World) (x : Ins) : Rf (w.alloc (io x.op x.a x.b x.c x.n x.k x.i x.t)) 8 (.slice (some ⟨w.heap.size, 0, none⟩) 1 1) 1 ([x].flatMap Ins.cells) :=
  rf_of_owns (owns_new w 0 x (Nat.zero_le _)) (all_one _)

theorem Tws.list {w W : World} {nm : ByteArray} {ar : Int} {S : Value} {ao : Option Addr} {n c : Nat} {ys : List Ins} (h : Tws w W nm ar S (.slice ao (n + 9) c) (ys ++ (List.range 9).map (fun i : Nat => markI (i : Int)))) :
    ∃ g cur, ao = some ⟨g, 0, none⟩ ∧ w.heap.size + 1 + 1 ≤ g ∧ n + 9 ≤ c ∧ W.heap[g]? = some (.cells cur 53 (0, 0)) ∧ ∀ (j : Nat) (x : Ins), (ys ++ (List.range 9).map (fun i : Nat => markI (i : Int)))[j]? = some x → InsAt W g (j * 8) x := by
  have hc := code_of_rf (rf_of_owns h.ow (all_one _))
  rcases h.ow.2 with ⟨_, e2⟩ | ⟨g, cap, cur, e1, hB, hgg, hle, _⟩
  · simp at e2
  · injection e1 with e1 e2 e3
    refine ⟨g, cur, e1, hB, by omega, hgg, ?_⟩
    obtain ⟨ao', cap', e4, _, hx⟩ := hc
    injection e4 with e4 _ _
    obtain ⟨b, off, e5, hat⟩ := hx (by simp)
    rw [← e4, e1] at e5
    injection e5 with e5
    injection e5 with e5 e6 _
    subst e5 e6
    intro j x hx
    have := hat j x hx
    rwa [Nat.zero_add] at this

theorem tw_fin {w W : World} {nm : ByteArray} {ar : Int} {S L : Value} {ys zs : List Ins} {g : Nat} {cur : Array Value} (h : Tws w W nm ar S L ys) (hg : w.heap.size + 1 + 1 ≤ g) (hb : W.heap[g]? = some (.cells cur 53 (0, 0))) (hc : ∀ (j : Nat) (x : Ins), zs[j]? = some x → InsAt W g (j * 8) x) (v : Value) :
    ((((W.setCell ⟨w.heap.size, 2, none⟩ v).setCell ⟨w.heap.size + 1, 0, none⟩ (.string nm)).setCell ⟨w.heap.size + 1, 1, none⟩ (.int .i64 ar)).setCell ⟨w.heap.size + 1, 2, none⟩ v).heap[w.heap.size + 1]? = some (.cells #[.string nm, .int .i64 ar, v] 27 (0, 0)) ∧ ((((W.setCell ⟨w.heap.size, 2, none⟩ v).setCell ⟨w.heap.size + 1, 0, none⟩ (.string nm)).setCell ⟨w.heap.size + 1, 1, none⟩ (.int .i64 ar)).setCell ⟨w.heap.size + 1, 2, none⟩ v).heap[g]? = some (.cells cur 53 (0, 0)) ∧ (∀ (j : Nat) (x : Ins), zs[j]? = some x → InsAt ((((W.setCell ⟨w.heap.size, 2, none⟩ v).setCell ⟨w.heap.size + 1, 0, none⟩ (.string nm)).setCell ⟨w.heap.size + 1, 1, none⟩ (.int .i64 ar)).setCell ⟨w.heap.size + 1, 2, none⟩ v) g (j * 8) x) ∧ Below w.heap.size w ((((W.setCell ⟨w.heap.size, 2, none⟩ v).setCell ⟨w.heap.size + 1, 0, none⟩ (.string nm)).setCell ⟨w.heap.size + 1, 1, none⟩ (.int .i64 ar)).setCell ⟨w.heap.size + 1, 2, none⟩ v) := by
  have e0 : ∀ k, k ≠ w.heap.size → (W.setCell ⟨w.heap.size, 2, none⟩ v).heap[k]? = W.heap[k]? := fun k hk => Below.heap_setCell _ _ _ _ hk
  have b1 := (e0 (w.heap.size + 1) (by omega)).trans h.r1
  have hB := h.hb.setCell (p := ⟨w.heap.size, 2, none⟩) (Nat.le_refl _) v
  have bg := e0 g (by omega)
  generalize W.setCell ⟨w.heap.size, 2, none⟩ v = V at b1 hB bg
  have e1 : ∀ k, k ≠ w.heap.size + 1 → (((V.setCell ⟨w.heap.size + 1, 0, none⟩ (.string nm)).setCell ⟨w.heap.size + 1, 1, none⟩ (.int .i64 ar)).setCell ⟨w.heap.size + 1, 2, none⟩ v).heap[k]? = V.heap[k]? :=
    fun k hk => (Below.heap_setCell _ _ _ _ hk).trans ((Below.heap_setCell _ _ _ _ hk).trans (Below.heap_setCell _ _ _ _ hk))
  have eg := (e1 g (by omega)).trans bg
  exact ⟨set3 b1 _ _ _, eg.trans hb, fun j x hx => (hc j x hx).same eg, Below.set3 hB (by omega) _ _ _⟩

/-- What twin leaves. -/
def TwPost (nm : ByteArray) (ar : Int) (xs : List Ins) (w : World) (e : Ending) (w' : World) : Prop :=
  ∃ g cap cur, e = .returned (.agg #[.string nm, .int .i64 ar, .slice (some ⟨g, 0, none⟩) xs.length cap]) ∧ xs.length + 9 ≤ cap ∧ w.heap.size ≤ g ∧ w'.heap[g]? = some (.cells cur 53 (0, 0)) ∧
    (∀ (j : Nat) (x : Ins), (xs ++ (List.range 9).map (fun i : Nat => markI (i : Int)))[j]? = some x → InsAt w' g (j * 8) x) ∧ Below w.heap.size w w'

end Go.Proofs.YtdnlfacfleemeaaGreat

namespace Go.Proofs.YtdnlfacfleemeaaGreat
open Go.RowKit Go.Lib

theorem fldV_octk (f : Fk) (v : Int) (h0 : 0 ≤ v) (h1 : v < 256) : Oct (fldV f v) := by
  have hr : Oct (rowF 10 v) := oct_row 10 v h0 (by omega)
  have hb : Oct [v] := fun y hy => by simp at hy; omega
  cases f
  · exact hb
  · exact hb
  · exact hb
  · exact hr
  · exact hr
  · exact hr
  · exact hr

theorem oct_appk {a b : List Int} (h1 : Oct a) (h2 : Oct b) : Oct (a ++ b) := fun y hy => (List.mem_append.1 hy).elim (h1 y) (h2 y)

theorem insBx_octk (x : Ins) (hop : 1 ≤ x.op ∧ x.op ≤ 16) (hf : ∀ f ∈ opF (opN x.op), 0 ≤ f.get x ∧ f.get x < 256) (hc : chk x.k x.i x.t = 0) (hi : InsOk x) : Oct (insBx x) := by
  rw [insBx_eq]
  refine oct_appk (fun y hy => by simp at hy; omega) (oct_appk ?_ ?_)
  · intro y hy
    obtain ⟨f, hf1, hf2⟩ := List.mem_flatMap.1 hy
    exact fldV_octk f _ (hf f hf1).1 (hf f hf1).2 y hf2
  · split
    · have hl := encB_len x.k x.i x.t hc hi.1 hi.2
      exact oct_appk (oct_row 10 _ (by omega) (by have := hl.1; omega)) hl.2
    · exact fun y hy => by simp at hy

theorem procB_octk (nm : ByteArray) (ar : Int) (xs : List Ins) (hE : (procChk nm ar xs).2 = 0) (hi : ∀ x ∈ xs, InsOk x) : Oct (procB nm ar xs) := by
  have g := good_of hE
  have h1 := g.a0
  have h2 := g.a1
  have h3 := g.len
  have h4 := g.size
  have h5 := strBs_len nm
  unfold procB
  refine oct_appk (oct_appk (oct_appk (oct_appk (oct_row 10 _ (by omega) (by omega)) (oct_str nm)) (oct_row 10 _ h1 (by omega))) (oct_row 10 _ (by omega) (by omega))) ?_
  intro y hy
  obtain ⟨x, hx1, hx2⟩ := List.mem_flatMap.1 hy
  obtain ⟨j, hj⟩ := List.getElem?_of_mem hx1
  obtain ⟨q1, q2, q3⟩ := g.at hj
  exact insBx_octk x q1 q2 q3 (hi x hx1) y hx2

theorem procB_len (nm : ByteArray) (ar : Int) (xs : List Ins) (hE : (procChk nm ar xs).2 = 0) (hi : ∀ x ∈ xs, InsOk x) : (procB nm ar xs).length ≤ 100000000 := by
  have g := good_of hE
  have h4 := g.size
  have h5 := strBs_len nm
  have h3 := g.len
  have r1 := rowF_le 10 ((strBs nm).length : Nat)
  have r2 := rowF_le 10 ar
  have r3 := rowF_le 10 (xs.length : Int)
  have hc := code_len xs (fun x hx => by
    obtain ⟨j, hj⟩ := List.getElem?_of_mem hx
    exact insBx_len x (g.at hj).2.2 (hi x hx))
  have : 1002000 * xs.length ≤ 1002000 * 64 := Nat.mul_le_mul_left _ h3
  unfold procB
  simp only [List.length_append]
  omega

/-- The law's two first blocks: the procedure, the instruction. -/
structure Bst (w W : World) (nm : ByteArray) (ar : Int) (S : Value) (x : Ins) : Prop where
  r0 : W.heap[w.heap.size]? = some (po nm ar S)
  r1 : W.heap[w.heap.size + 1]? = some (io x.op x.a x.b x.c x.n x.k x.i x.t)
  hb : Below w.heap.size w W

theorem Bst.below {w W W' : World} {nm : ByteArray} {ar : Int} {S : Value} {x : Ins} (h : Bst w W nm ar S x) (hb : Below W.heap.size W W') : Bst w W' nm ar S x :=
  ⟨blk_of hb h.r0 (lt_of h.r0), blk_of hb h.r1 (lt_of h.r1), below_on h.hb hb⟩

theorem bst_start (w : World) (nm : ByteArray) (ar : Int) (S : Value) (x : Ins) : Bst w ((w.alloc (po nm ar S)).alloc (io x.op x.a x.b x.c x.n x.k x.i x.t)) nm ar S x := ⟨two1 w _ _, two2 w _ _, below2 w _ _⟩

theorem dst_code {W : World} {cb : Nat} {xs : List Ins} (hc : ∀ (j : Nat) (x : Ins), xs[j]? = some x → InsAt W cb (j * 8) x) : CodeAt W (.slice (some ⟨cb, 0, none⟩) xs.length xs.length) xs :=
  ⟨_, _, rfl, Nat.le_refl _, fun _ => ⟨cb, 0, rfl, fun j x hx => by rw [Nat.zero_add]; exact hc j x hx⟩⟩

/-- An instruction stored. -/
def put8 (W : World) (g o : Nat) (x : Ins) : World := ((((((((W.setCell ⟨g, o, none⟩ (.int .i64 x.op)).setCell ⟨g, o + 1, none⟩ (.int .i64 x.a)).setCell ⟨g, o + 2, none⟩ (.int .i64 x.b)).setCell ⟨g, o + 3, none⟩ (.int .i64 x.c)).setCell ⟨g, o + 4, none⟩ (.int .i64 x.n)).setCell ⟨g, o + 5, none⟩ (.int .i64 x.k)).setCell ⟨g, o + 6, none⟩ (.int .i64 x.i)).setCell ⟨g, o + 7, none⟩ (.string x.t))

theorem put8_block (W : World) (g o : Nat) (x : Ins) (k : Nat) (hk : k ≠ g) : (put8 W g o x).heap[k]? = W.heap[k]? := by
  unfold put8
  repeat rw [Below.heap_setCell _ _ _ _ hk]

theorem put8_kept (W : World) (g o : Nat) (x : Ins) : Kept (fun k => k = g) W (put8 W g o x) := by
  unfold put8
  exact ((((((((Kept.refl (fun k => k = g) W).setCell (p := ⟨g, o, none⟩) (fun _ => rfl) _).setCell (p := ⟨g, o + 1, none⟩) (fun _ => rfl) _).setCell (p := ⟨g, o + 2, none⟩) (fun _ => rfl) _).setCell (p := ⟨g, o + 3, none⟩) (fun _ => rfl) _).setCell (p := ⟨g, o + 4, none⟩) (fun _ => rfl) _).setCell (p := ⟨g, o + 5, none⟩) (fun _ => rfl) _).setCell (p := ⟨g, o + 6, none⟩) (fun _ => rfl) _).setCell (p := ⟨g, o + 7, none⟩) (fun _ => rfl) _

theorem put8_out (W : World) (g o : Nat) (x : Ins) (q : Nat) (hq : q < o ∨ o + 8 ≤ q) : (put8 W g o x).cell? ⟨g, q, none⟩ = W.cell? ⟨g, q, none⟩ := by
  unfold put8
  rw [cs_other (adr_ne (by omega)), cs_other (adr_ne (by omega)), cs_other (adr_ne (by omega)), cs_other (adr_ne (by omega)), cs_other (adr_ne (by omega)), cs_other (adr_ne (by omega)), cs_other (adr_ne (by omega)), cs_other (adr_ne (by omega))]

theorem put8_in (W : World) (g o : Nat) (x y : Ins) (h : InsAt W g o y) : InsAt (put8 W g o x) g o x := by
  have h1 := h.setOp x.op
  have h2 := h1.set .a x.a
  have h3 := h2.set .b x.b
  have h4 := h3.set .c x.c
  have h5 := h4.set .arg x.n
  exact h5.setV x.k x.i x.t

theorem put8_code {W : World} {g cap cN : Nat} {xs : List Ins} {x : Ins} (hcap : xs.length ≤ cap) (hc : ∀ (j : Nat) (y : Ins), xs[j]? = some y → InsAt W g (j * 8) y) (hlt : cN < xs.length) :
    CodeAt (put8 W g (cN * 8) x) (.slice (some ⟨g, 0, none⟩) xs.length cap) (xs.set cN x) := by
  refine ⟨_, _, by rw [List.length_set], by rw [List.length_set]; exact hcap, fun _ => ⟨g, 0, rfl, fun j y hy => ?_⟩⟩
  rw [Nat.zero_add]
  by_cases hj : j = cN
  · subst hj
    rw [List.getElem?_set_self hlt] at hy
    have hy := Option.some.inj hy
    subst hy
    exact put8_in W g (j * 8) x _ (hc j _ (List.getElem?_eq_getElem hlt))
  · rw [List.getElem?_set_ne (Ne.symm hj)] at hy
    exact (hc j y hy).moved (fun m hm => put8_out W g (cN * 8) x _ (by omega))

set_option maxRecDepth 100000 in
theorem ins_eql (x y : Ins) (w : World) : (binOp BinOp.eql 53 x.val y.val).run Tryz.prog w = .ok (.bool (decide (x = y))) w := by
  have h := ins_neq x y w
  rw [show x.val = .agg #[.int .i64 x.op, .int .i64 x.a, .int .i64 x.b, .int .i64 x.c, .int .i64 x.n, .int .i64 x.k, .int .i64 x.i, .string x.t] from rfl, show y.val = .agg #[.int .i64 y.op, .int .i64 y.a, .int .i64 y.b, .int .i64 y.c, .int .i64 y.n, .int .i64 y.k, .int .i64 y.i, .string y.t] from rfl] at h ⊢
  rw [run_neq_struct] at h
  rw [run_eql_struct]
  cases hr : (Op.equalIn 10000 53 (.agg #[.int .i64 x.op, .int .i64 x.a, .int .i64 x.b, .int .i64 x.c, .int .i64 x.n, .int .i64 x.k, .int .i64 x.i, .string x.t]) (.agg #[.int .i64 y.op, .int .i64 y.a, .int .i64 y.b, .int .i64 y.c, .int .i64 y.n, .int .i64 y.k, .int .i64 y.i, .string y.t])).run Tryz.prog w with
  | ok b w2 =>
    rw [hr] at h
    simp only [Result.andThen_ok] at h ⊢
    injection h with h1 h2
    injection h1 with h1
    rw [h2]
    congr 2
    cases b <;> cases hd : decide (x = y) <;> simp_all
  | _ => rw [hr] at h; simp [Result.andThen] at h

/-- The same bytes, just if it is the same instruction. -/
theorem set_same (nm : ByteArray) (ar : Int) (xs : List Ins) (x y : Ins) (cN : Nat) (hE : (procChk nm ar xs).2 = 0) (hi : ∀ x ∈ xs, InsOk x) (hx : InsOk x) (hy : xs[cN]? = some y) (hE2 : (procChk nm ar (xs.set cN x)).2 = 0) :
    decide (procB nm ar xs = procB nm ar (xs.set cN x)) = decide (x = y) := by
  have hi2 : ∀ z ∈ xs.set cN x, InsOk z := fun z hz => (List.mem_or_eq_of_mem_set hz).elim (hi z) (fun e => e ▸ hx)
  have hlt : cN < xs.length := (List.getElem?_eq_some_iff.1 hy).1
  by_cases hxy : x = y
  · subst hxy
    have e : xs.set cN x = xs := by
      apply List.ext_getElem?
      intro j
      by_cases hj : cN = j
      · subst hj; rw [List.getElem?_set_self hlt, hy]
      · rw [List.getElem?_set_ne hj]
    rw [e]
    simp
  · have hne : procB nm ar xs ≠ procB nm ar (xs.set cN x) := by
      intro e
      have d1 := dec_procB nm ar xs hE hi
      have d2 := dec_procB nm ar (xs.set cN x) hE2 hi2
      rw [e, d2] at d1
      injection d1 with d1
      injection d1 with _ d1
      injection d1 with _ d1
      have := congrArg (fun l => l[cN]?) d1
      simp only [List.getElem?_set_self hlt, hy] at this
      exact hxy (Option.some.inj this)
    rw [decide_eq_false hne, decide_eq_false hxy]

theorem tw_at {w W : World} {g g2 : Nat} {cur : Array Value} {xs zs : List Ins} {bs : List Int} (hg : w.heap.size ≤ g) (_hb : W.heap[g]? = some (.cells cur 53 (0, 0))) (hc : ∀ (j : Nat) (x : Ins), (xs ++ zs)[j]? = some x → InsAt W g (j * 8) x) (_hB : Below w.heap.size w W) (ho : Own w g2 bs) :
    (∀ (j : Nat) (x : Ins), xs[j]? = some x → InsAt W g (j * 8) x) ∧ g2 ≠ g := by
  refine ⟨fun j x hx => hc j x ?_, by have := lt_of ho; omega⟩
  rw [List.getElem?_append_left (List.getElem?_eq_some_iff.1 hx).1]
  exact hx

/-- Behind the store. -/
structure Bk2 (w W : World) (nm : ByteArray) (ar : Int) (S : Value) (x : Ins) (g2 : Nat) (bs : List Int) (S2 : Value) (ys : List Ins) (r : Nat) : Prop where
  st : Bst w W nm ar S x
  ow : Own W g2 bs
  co : CodeAt W S2 ys
  t : W.heap[r]? = some (po nm ar S2)

theorem bk_world {w w4 w5 : World} {nm : ByteArray} {ar : Int} {S : Value} {x : Ins} {g g2 c5 cN : Nat} {bs : List Int} {xs : List Ins} {cur : Array Value}
    (h : Bst w w5 nm ar S x ∧ Own w5 g2 bs ∧ ((∀ (j : Nat) (y : Ins), xs[j]? = some y → InsAt w5 g (j * 8) y) ∧ g2 ≠ g) ∧ xs.length + 9 ≤ c5 ∧ w5.heap[g]? = some (.cells cur 53 (0, 0)) ∧ w4.heap.size ≤ g ∧ w.heap.size + 1 < w4.heap.size) (hlt : cN < xs.length) :
    Bk2 w ((put8 w5 g (cN * 8) x).alloc (po nm ar (.slice (some ⟨g, 0, none⟩) xs.length c5))) nm ar S x g2 bs (.slice (some ⟨g, 0, none⟩) xs.length c5) (xs.set cN x) w5.heap.size := by
  obtain ⟨hs, ho, ⟨hc, hne⟩, hc5, hb, hg, hl⟩ := h
  have hz : (put8 w5 g (cN * 8) x).heap.size = w5.heap.size := by simp [put8, World.setCell]
  have k := put8_kept w5 g (cN * 8) x
  have b0 := (k.block _ (lt_of hs.r0) (by omega)).trans hs.r0
  have b1 := (k.block _ (lt_of hs.r1) (by omega)).trans hs.r1
  have b2 := (k.block _ (lt_of ho) hne).trans ho
  have hB : Below w.heap.size w (put8 w5 g (cN * 8) x) := hs.hb.trans (k.below hs.hb.size (fun q hq e => by omega))
  have hco := put8_code (W := w5) (x := x) (cap := c5) (by omega) hc hlt
  have hn := heap_alloc_new (put8 w5 g (cN * 8) x) (po nm ar (.slice (some ⟨g, 0, none⟩) xs.length c5))
  rw [hz] at hn
  have hbb := below1 (put8 w5 g (cN * 8) x) (po nm ar (.slice (some ⟨g, 0, none⟩) xs.length c5))
  exact ⟨⟨blk_of hbb b0 (lt_of b0), blk_of hbb b1 (lt_of b1), below_on hB hbb⟩, blk_of hbb b2 (lt_of b2), hco.below hbb, hn⟩

theorem below_drewk {w0 w w1 : World} (h0 : Below w0.heap.size w0 w) (h : Below w.drew.heap.size w.drew w1) : Below w0.heap.size w0 w1 := by
  have h' : Below w.heap.size w w1 := ⟨h.os, h.tape, h.output, h.size, h.block⟩
  exact below_on h0 h'

end Go.Proofs.YtdnlfacfleemeaaGreat

namespace Go.Proofs.YtdnlfacfleemeaaGreat
open Go.RowKit Go.Lib

/-- While a twin is looked at. -/
structure Sns (w W : World) (nm : ByteArray) (ar : Int) (S1 S2 : Value) (g : Nat) (zs : List Ins) : Prop where
  r0 : W.heap[w.heap.size]? = some (po nm ar S1)
  r1 : W.heap[w.heap.size + 1]? = some (po nm ar S2)
  at_ : ∀ (j : Nat) (x : Ins), zs[j]? = some x → InsAt W g (j * 8) x
  hb : Below w.heap.size w W

theorem Sns.below {w W W' : World} {nm : ByteArray} {ar : Int} {S1 S2 : Value} {g : Nat} {zs : List Ins} (h : Sns w W nm ar S1 S2 g zs) (hb : Below W.heap.size W W') : Sns w W' nm ar S1 S2 g zs :=
  ⟨blk_of hb h.r0 (lt_of h.r0), blk_of hb h.r1 (lt_of h.r1), fun j x hx => (h.at_ j x hx).same (hb.block g (h.at_ j x hx).lt), below_on h.hb hb⟩

theorem sns_start (w : World) (nm : ByteArray) (ar : Int) (S1 S2 : Value) (g : Nat) (zs : List Ins) (h : ∀ (j : Nat) (x : Ins), zs[j]? = some x → InsAt w g (j * 8) x) : Sns w ((w.alloc (po nm ar S1)).alloc (po nm ar S2)) nm ar S1 S2 g zs :=
  ⟨two1 w _ _, two2 w _ _, fun j x hx => (h j x hx).same ((below2 w _ _).block g (h j x hx).lt), below2 w _ _⟩

def marks : List Ins := (List.range 9).map (fun i : Nat => markI (i : Int))

theorem marks_at (xs : List Ins) (k : Nat) (h : k < 9) : (xs ++ marks)[xs.length + k]? = some (markI (k : Int)) := by
  rw [List.getElem?_append_right (by omega)]
  simp [marks, h]

theorem tw_code {w : World} {g cap : Nat} {xs zs : List Ins} (hcap : xs.length ≤ cap) (h : ∀ (j : Nat) (x : Ins), (xs ++ zs)[j]? = some x → InsAt w g (j * 8) x) : CodeAt w (.slice (some ⟨g, 0, none⟩) xs.length cap) xs :=
  ⟨_, cap, rfl, hcap, fun _ => ⟨g, 0, rfl, fun j x hx => by rw [Nat.zero_add]; exact h j x (by rw [List.getElem?_append_left (List.getElem?_eq_some_iff.1 hx).1]; exact hx)⟩⟩

end Go.Proofs.YtdnlfacfleemeaaGreat

namespace Go.Proofs.YtdnlfacfleemeaaGreat
open Go.RowKit Go.Lib

/-- Behind the twin: the law's blocks, the twin's list with its marks. -/
structure Ckt (w W : World) (nm : ByteArray) (ar : Int) (S : Value) (x : Ins) (r g cap : Nat) (xs : List Ins) : Prop where
  st : Bst w W nm ar S x
  t : W.heap[r]? = some (po nm ar (.slice (some ⟨g, 0, none⟩) xs.length cap))
  co : CodeAt W S xs
  at_ : ∀ (j : Nat) (y : Ins), (xs ++ marks)[j]? = some y → InsAt W g (j * 8) y
  blk : ∃ cur, W.heap[g]? = some (.cells cur 53 (0, 0))
  new : w.heap.size + 1 < g ∧ w.heap.size + 1 < r ∧ g ≠ r

theorem Ckt.below {w W W' : World} {nm : ByteArray} {ar : Int} {S : Value} {x : Ins} {r g cap : Nat} {xs : List Ins} (h : Ckt w W nm ar S x r g cap xs) (hb : Below W.heap.size W W') : Ckt w W' nm ar S x r g cap xs := by
  obtain ⟨cur, hc⟩ := h.blk
  exact ⟨h.st.below hb, blk_of hb h.t (lt_of h.t), h.co.below hb, fun j y hy => (h.at_ j y hy).same (hb.block g (h.at_ j y hy).lt), ⟨cur, blk_of hb hc (lt_of hc)⟩, h.new⟩

theorem ckt_start {w W w1 : World} {nm : ByteArray} {ar : Int} {S : Value} {x : Ins} {g cap : Nat} {xs : List Ins} {cur : Array Value} (h : Bst w W nm ar S x) (hs : CodeAt W S xs) (hg : W.heap.size ≤ g) (hk : w1.heap[g]? = some (.cells cur 53 (0, 0)))
    (ha : ∀ (j : Nat) (y : Ins), (xs ++ marks)[j]? = some y → InsAt w1 g (j * 8) y) (hb : Below W.heap.size W w1) : Ckt w (w1.alloc (po nm ar (.slice (some ⟨g, 0, none⟩) xs.length cap))) nm ar S x w1.heap.size g cap xs := by
  have hb2 := below_on hb (below1 w1 (po nm ar (.slice (some ⟨g, 0, none⟩) xs.length cap)))
  have hl := lt_of h.r1
  have hl2 := lt_of hk
  have hl3 := hb.size
  exact ⟨h.below hb2, heap_alloc_new w1 _, hs.below hb2, fun j y hy => (ha j y hy).same ((below1 w1 _).block g (ha j y hy).lt), ⟨cur, blk_of (below1 w1 _) hk hl2⟩, by omega, by omega, by omega⟩

theorem Ckt.code {w W : World} {nm : ByteArray} {ar : Int} {S : Value} {x : Ins} {r g cap : Nat} {xs : List Ins} (h : Ckt w W nm ar S x r g cap xs) (hcap : xs.length ≤ cap) : CodeAt W (.slice (some ⟨g, 0, none⟩) xs.length cap) xs := tw_code hcap h.at_

/-- Behind the store. -/
structure Ck2 (w W : World) (nm : ByteArray) (ar : Int) (r : Nat) (S2 : Value) (ys : List Ins) : Prop where
  t : W.heap[r]? = some (po nm ar S2)
  co : CodeAt W S2 ys
  hb : Below w.heap.size w W

theorem Ck2.below {w W W' : World} {nm : ByteArray} {ar : Int} {r : Nat} {S2 : Value} {ys : List Ins} (h : Ck2 w W nm ar r S2 ys) (hb : Below W.heap.size W W') : Ck2 w W' nm ar r S2 ys :=
  ⟨blk_of hb h.t (lt_of h.t), h.co.below hb, below_on h.hb hb⟩

theorem ck2_start {w W : World} {nm : ByteArray} {ar : Int} {S : Value} {x : Ins} {r g cap cN : Nat} {xs : List Ins} (h : Ckt w W nm ar S x r g cap xs) (hcap : xs.length ≤ cap) (hlt : cN < xs.length) :
    Ck2 w (put8 W g (cN * 8) x) nm ar r (.slice (some ⟨g, 0, none⟩) xs.length cap) (xs.set cN x) := by
  have k := put8_kept W g (cN * 8) x
  refine ⟨(k.block _ (lt_of h.t) h.new.2.2.symm).trans h.t, put8_code hcap (fun j y hy => h.at_ j y (by rw [List.getElem?_append_left (List.getElem?_eq_some_iff.1 hy).1]; exact hy)) hlt, h.st.hb.trans (k.below h.st.hb.size (fun q hq e => by have := h.new.1; omega))⟩

end Go.Proofs.YtdnlfacfleemeaaGreat

namespace Go.Proofs.YtdnlfacfleemeaaGreat
open Go.RowKit

/-- A Writer of the document, answered. -/
def RWPost (w : World) (v0 : Value) (bs : List Int) (e : Int) (x : Ending) (w' : World) : Prop := ∃ v, x = .returned (.agg #[v, .int .i64 e]) ∧ Sn w' v bs ∧ Below w.heap.size w w' ∧ (v = v0 ∨ ∀ k, v.ownBlock = some k → w.heap.size ≤ k ∧ k < w'.heap.size)

theorem Sn.form {w : World} {v : Value} {bs : List Int} (h : Sn w v bs) : ∃ ao c, v = .slice ao bs.length c := by
  obtain ⟨⟨ao, cap, rfl, _⟩, _⟩ := h
  exact ⟨_, _, rfl⟩

set_option maxRecDepth 100000 in
set_option maxHeartbeats 1600000 in
theorem rlaid_stop (v vb : Value) (bs : List Int) (e : Int) (w : World) (h : Sn w v bs) (he : e ≠ 0) :
    Calls Tryz.prog 47 #[.agg #[v, .int .i64 e], vb] w fun x w' => RWPost w v bs e x w' := by
  have he2 : (e != 0) = true := by simpa using he
  obtain ⟨ao, c, rfl⟩ := h.form
  have H := hid h
  clear h he
  go_enter Tryz.func47, Tryz.ntmps47
  go_wp2
  refine bodyPost_ret (v := .agg #[.slice ao bs.length c, .int .i64 e]) (by simp [results, Tryz.results47, go_sem]) rfl ?_
  exact ⟨_, rfl, (H.out.alloc _).alloc _, ((Below.refl _ _).alloc (Nat.le_refl _) _).alloc (by simp) _, .inl rfl⟩

set_option maxRecDepth 100000 in
set_option maxHeartbeats 1600000 in
theorem rlaid_ok (v vb : Value) (bs xs : List Int) (w : World) (h : Sn w v bs) (hb : Sn w vb xs) (hl : bs.length + xs.length ≤ 10000000000) :
    Calls Tryz.prog 47 #[.agg #[v, .int .i64 0], vb] w fun x w' => RWPost w v (bs ++ xs) 0 x w' := by
  obtain ⟨ao, c, rfl⟩ := h.form
  have H := hid h
  have HB := hid hb
  clear h hb
  go_enter Tryz.func47, Tryz.ntmps47
  go_wp2_with (at_builtin; refine wpList_append_sn _ rfl (.tmp 10) (.tmp 12) rfl (w.heap.size + 2) (.slice none 0 0) 0 [] rfl (World.ownsRow_nil _ _ _ _) _ bs rfl ((H.out.alloc _).alloc _) (by omega) (by simp) ?_)
  intro ao1 c1 w1 ho1 hg1
  have hz1 := hg1.size
  have q0 : w1.heap[w.heap.size]? = some (.cells #[.slice ao bs.length c, .int .i64 0] 66 (0, 0)) := by
    rw [hg1.block _ (by simp; omega) (by simp [Value.ownBlock]), Below.heap_alloc _ _ _ (by simp)]
    exact heap_alloc_new w _
  have q1 : w1.heap[w.heap.size + 1]? = some (.cells #[.slice none 0 0, .int .i64 0] 66 (0, 0)) := by
    rw [hg1.block _ (by simp) (by simp [Value.ownBlock])]
    have := heap_alloc_new (w.alloc (.cells #[.slice ao bs.length c, .int .i64 0] 66)) (.cells #[.slice none 0 0, .int .i64 0] 66)
    simpa using this
  have hbel : Below w.heap.size w w1 := (((Below.refl _ _).alloc (Nat.le_refl _) _).alloc (by simp) _).grown hg1 (by simp; omega) (by intro k hk; simp [Value.ownBlock] at hk)
  have Q0 := hid q0
  have Q1 := hid q1
  have HB1 := hid (HB.out.below hbel)
  simp at hz1
  clear q0 q1 hg1 HB H
  go_wp2_with (at_builtin; refine wpList_append_sn _ rfl (.tmp 14) (.tmp 15) rfl (w.heap.size + 2) _ bs.length bs rfl ho1 _ xs rfl HB1.out (by omega) (by omega) ?_)
  intro ao2 c2 w2 ho2 hg2
  have hlo := ho1.lt
  have r0 : w2.heap[w.heap.size]? = some (.cells #[.slice ao bs.length c, .int .i64 0] 66 (0, 0)) := by
    rw [hg2.block _ (by omega) (fun h => by have := hlo _ h.symm; omega)]
    exact Q0.out
  have r1 : w2.heap[w.heap.size + 1]? = some (.cells #[.slice none 0 0, .int .i64 0] 66 (0, 0)) := by
    rw [hg2.block _ (by omega) (fun h => by have := hlo _ h.symm; omega)]
    exact Q1.out
  have hb2 : Below w.heap.size w w2 := hbel.grown hg2 (by omega) (fun k hk => by have := hlo k hk; omega)
  obtain ⟨d0, d1⟩ := cell_of_pair r0
  obtain ⟨d2, d3⟩ := cell_of_pair r1
  have z0 := free_of_block (o := 0) r0
  have z1 := free_of_block (o := 0) r1
  have z2 := free_of_block (o := 1) r1
  have HO := hid ho2
  have hne : (w.heap.size : Nat) ≠ w.heap.size + 1 := by omega
  clear hg2 ho1 ho2 hlo Q0 Q1 HB1 hbel r0 r1
  go_wp2
  have hk : Kept (fun k => k = w.heap.size ∨ k = w.heap.size + 1) w2 (((w2.setCell ⟨w.heap.size, 0, none⟩ (.slice ao2 (bs.length + xs.length) c2)).setCell ⟨w.heap.size + 1, 0, none⟩ (.slice ao2 (bs.length + xs.length) c2)).setCell ⟨w.heap.size + 1, 1, none⟩ (.int .i64 0)) :=
    (((Kept.refl (fun k => k = w.heap.size ∨ k = w.heap.size + 1) w2).setCell (fun _ => .inl rfl) _).setCell (fun _ => .inr rfl) _).setCell (fun _ => .inr rfl) _
  have ho3 : w2.ownsRow (w.heap.size + 2) 5 1 (.slice ao2 (bs.length + xs.length) c2) (bs.length + xs.length) (B8 (bs ++ xs)) := by
    have := HO.out
    simpa [B8] using this
  refine bodyPost_ret (v := .agg #[.slice ao2 (bs.length + xs.length) c2, .int .i64 0]) (by simp [results, Tryz.results47, go_sem, d2, d3]) rfl ?_
  refine ⟨_, rfl, ?_, ?_, .inr (fun k hk2 => by have h1 := ho3.lt k hk2; have h2 := hk.size; omega)⟩
  · exact (sn_of_owns ho3).kept hk (fun k h1 h2 => by have := ho3.lt k h1; omega)
  · exact ((hb2.setCell (Nat.le_refl _) _).setCell (by simp) _).setCell (by simp) _

end Go.Proofs.YtdnlfacfleemeaaGreat

namespace Go.Proofs.YtdnlfacfleemeaaGreat
open Go.RowKit

/-- Bytes don't lie in a Writer's cells. -/
theorem sl_setPair {w : World} {v : Value} {bs : List Int} {q : Nat} {a : Option Addr} {n c : Nat} {e : Int} {t : TypeId} (h : Sl w v bs) (hq : w.heap[q]? = some (.cells #[.slice a n c, .int .i64 e] t (0, 0))) (i : Nat) (x : Value) : Sl (w.setCell ⟨q, i, none⟩ x) v bs := by
  obtain ⟨ao, cap, rfl, hc, hx⟩ := h
  refine ⟨ao, cap, rfl, hc, fun hne => ?_⟩
  obtain ⟨b, off, rfl, hj⟩ := hx hne
  refine ⟨b, off, rfl, ?_⟩
  have hbq : b ≠ q := by
    intro e
    subst e
    have h0 := hj 0 _ (List.getElem?_eq_getElem (List.length_pos_iff.2 hne))
    rw [cell_of_row w b _ _ t (0, 0) hq] at h0
    match off + 0, h0 with
    | 0, h0 => simp at h0
    | 1, h0 => simp at h0
    | k + 2, h0 => simp at h0
  intro j y hy
  rw [World.cell?_of_block (Below.heap_setCell _ _ _ _ hbq)]
  exact hj j y hy

theorem rw_finish {w w1 : World} {q : Nat} {a : Option Addr} {n c : Nat} {e0 e : Int} {t : TypeId} {ao : Option Addr} {len cap : Nat} {bs : List Int} (hq : w1.heap[q]? = some (.cells #[.slice a n c, .int .i64 e0] t (0, 0))) (hv : Sn w1 (.slice ao len cap) bs)
    (hb : Below w.heap.size w w1) (hge : w.heap.size ≤ q) {v0 : Value} (hf : .slice ao len cap = v0 ∨ ∀ k, (Value.slice ao len cap).ownBlock = some k → w.heap.size ≤ k ∧ k < w1.heap.size) : RWPost w v0 bs e (.returned (.agg #[.slice ao len cap, .int .i64 e])) ((w1.setCell ⟨q, 0, none⟩ (.slice ao len cap)).setCell ⟨q, 1, none⟩ (.int .i64 e)) := by
  refine ⟨_, rfl, ⟨sl_setPair (sl_setPair hv.1 hq 0 _) (heap_setCell_same hq) 1 _, hv.2⟩, (hb.setCell hge _).setCell hge _, by simpa [World.setCell] using hf⟩

theorem fresh_mono {v v0 : Value} {A B C D : Nat} (h : v = v0 ∨ ∀ k, v.ownBlock = some k → A ≤ k ∧ k < C) (hle : B ≤ A) (hcd : C ≤ D) : v = v0 ∨ ∀ k, v.ownBlock = some k → B ≤ k ∧ k < D := by
  rcases h with h | h
  · exact .inl h
  · exact .inr (fun k hk => ⟨Nat.le_trans hle (h k hk).1, Nat.lt_of_lt_of_le (h k hk).2 hcd⟩)

theorem new2 (w : World) (X Y : Obj) : ((w.alloc X).alloc Y).heap[w.heap.size + 1]? = some Y ∧ ((w.alloc X).alloc Y).heap[w.heap.size]? = some X := by
  constructor
  · have := heap_alloc_new (w.alloc X) Y
    simpa using this
  · rw [Below.heap_alloc _ _ _ (by simp)]
    exact heap_alloc_new w X

/-- What 'stopped' and its kin leave. -/
def stopZ (s : List Int × Int) (e : Int) : List Int × Int := if s.2 = 0 then (s.1, e) else s
def laidZ (s : List Int × Int) (xs : List Int) : List Int × Int := if s.2 = 0 then (s.1 ++ xs, 0) else s

theorem rlaid_any (v vb : Value) (s : List Int × Int) (xs : List Int) (w : World) (h : Sn w v s.1) (hb : Sn w vb xs) (hl : s.1.length + xs.length ≤ 10000000000) :
    Calls Tryz.prog 47 #[.agg #[v, .int .i64 s.2], vb] w fun x w' => RWPost w v (laidZ s xs).1 (laidZ s xs).2 x w' := by
  obtain ⟨bs, e⟩ := s
  unfold laidZ
  by_cases he : e = 0
  · subst he
    rw [if_pos rfl]
    exact rlaid_ok v vb bs xs w h hb hl
  · rw [if_neg he]
    exact rlaid_stop v vb bs e w h he

set_option maxRecDepth 100000 in
set_option maxHeartbeats 1600000 in
theorem rstop_any (v : Value) (s : List Int × Int) (e2 : Int) (w : World) (h : Sn w v s.1) :
    Calls Tryz.prog 46 #[.agg #[v, .int .i64 s.2], .int .i64 e2] w fun x w' => RWPost w v (stopZ s e2).1 (stopZ s e2).2 x w' := by
  obtain ⟨bs, e⟩ := s
  obtain ⟨ao, c, rfl⟩ := h.form
  have H := hid h
  clear h
  unfold stopZ
  by_cases he : e = 0
  · subst he
    rw [if_pos rfl]
    go_enter Tryz.func46, Tryz.ntmps46
    go_wp2
    refine bodyPost_ret (v := .agg #[.slice ao bs.length c, .int .i64 e2]) (by simp [results, Tryz.results46, go_sem]) rfl ?_
    exact ⟨_, rfl, (H.out.alloc _).alloc _, ((Below.refl _ _).alloc (Nat.le_refl _) _).alloc (by simp) _, .inl rfl⟩
  · rw [if_neg he]
    have he2 : (e == 0) = false := by simpa using he
    go_enter Tryz.func46, Tryz.ntmps46
    go_wp2
    refine bodyPost_ret (v := .agg #[.slice ao bs.length c, .int .i64 e]) (by simp [results, Tryz.results46, go_sem]) rfl ?_
    exact ⟨_, rfl, (H.out.alloc _).alloc _, ((Below.refl _ _).alloc (Nat.le_refl _) _).alloc (by simp) _, .inl rfl⟩

set_option maxRecDepth 100000 in
set_option maxHeartbeats 1600000 in
theorem rbyteW_any (v : Value) (s : List Int × Int) (y : Int) (w : World) (h : Sn w v s.1) (hl : s.1.length ≤ 1000000000) :
    Calls Tryz.prog 49 #[.agg #[v, .int .i64 s.2], .int .u8 y] w fun x w' => RWPost w v (laidZ s [y]).1 (laidZ s [y]).2 x w' := by
  obtain ⟨ao, c, rfl⟩ := h.form
  obtain ⟨bs, e⟩ := s
  have H := hid h
  clear h
  dsimp only at hl
  obtain ⟨R, hR⟩ : ∃ R, R = laidZ (bs, e) [y] := ⟨_, rfl⟩
  rw [← hR]
  have HR := hid hR
  clear hR
  go_enter Tryz.func49, Tryz.ntmps49
  go_wp2_with fail
  have hnb : ∀ X Y : Obj, Sn (((w.alloc X).alloc Y).alloc (.cells #[.int .u8 y] 5)) (.slice (some ⟨w.heap.size + 1 + 1, 0, none⟩) 1 1) [y] := fun X Y => by
    have h1 : Own (((w.alloc X).alloc Y).alloc (.cells #[.int .u8 y] 5)) (w.heap.size + 1 + 1) [y] := by
      have := heap_alloc_new ((w.alloc X).alloc Y) (.cells #[.int .u8 y] 5)
      simpa [Own, B8] using this
    exact sn_of_owns (h1.owns (B := 0) (Nat.zero_le _) (by unfold maxLen; simp))
  refine (rlaid_any _ _ (bs, e) [y] _ (((H.out.alloc _).alloc _).alloc _) (hnb _ _) (by simp; omega)).mono ?_
  rw [← HR.out]
  rintro x w1 ⟨v1, rfl, hs1, hb1, hf1⟩
  obtain ⟨ao1, c1, rfl⟩ := hs1.form
  have hq : w1.heap[w.heap.size + 1]? = some (.cells #[.slice none 0 0, .int .i64 0] 66 (0, 0)) := (hb1.block _ (by simp)).trans ((Below.heap_alloc _ _ _ (by simp)).trans (new2 w _ _).1)
  have HF := hid (rw_finish (e := R.2) hq hs1 (((((Below.refl _ _).alloc (Nat.le_refl _) _).alloc (by simp) _).alloc (by rw [World.size_alloc, World.size_alloc]; omega) _).trans (hb1.mono (by simp; omega))) (by omega) (fresh_mono hf1 (by first | omega | (simp; omega) | (simp at hz1; omega)) (Nat.le_refl _)))
  obtain ⟨d2, d3⟩ := cell_of_pair hq
  have z1 := free_of_block (o := 0) hq
  have z2 := free_of_block (o := 1) hq
  clear hq hs1 hb1 hf1 hnb H HR
  go_wp2
  refine bodyPost_ret (v := .agg #[.slice ao1 R.1.length c1, .int .i64 R.2]) (by simp [results, Tryz.results49, go_sem, d2, d3]) rfl ?_
  exact HF.out

/-- The bytes of 'Fixed', one by one. -/
def fixF : Nat → Int → List Int
  | 0, _ => []
  | n + 1, v => v % 256 :: fixF n (v / 256)

theorem fixF_len (n : Nat) (v : Int) : (fixF n v).length = n := by
  induction n generalizing v with
  | zero => rfl
  | succ n ih => simp [fixF, ih]

def rfixZ (s : List Int × Int) (v n : Int) : List Int × Int := if n < 0 ∨ 8 < n then stopZ s 1 else laidZ s (fixF n.toNat v)
def rnumZ (s : List Int × Int) (v : Int) : List Int × Int := if v < 0 then stopZ s 15 else laidZ s (rowF 10 v)
def rintZ (s : List Int × Int) (v : Int) : List Int × Int := laidZ s (rowF 10 (foldZ v))
def rtextZ (s : List Int × Int) (t : List Int) : List Int × Int := laidZ (rnumZ s t.length) t

end Go.Proofs.YtdnlfacfleemeaaGreat
