import Derived.Test.YtljfmbjibjoiiaaK16
import Derived.Test.YtljfmbjibjoiiaaK17
import Derived.StillTailTactics
namespace Go.Proofs.Ytljfmbjibjoiiaa
open Go.RowKit Go.Lib

theorem fldV_oct (f : Fk) (v : Int) (h0 : 0 ≤ v) (h1 : v < 256) : Oct (fldV f v) := by
  have hr : Oct (rowF 10 v) := oct_row 10 v h0 (by omega)
  have hb : Oct [v] := fun y hy => by simp at hy; omega
  cases f
  · exact hb
  · exact hb
  · exact hb
  · exact hr
  · exact hr
  · exact hr
  · exact hr

theorem oct_app {a b : List Int} (h1 : Oct a) (h2 : Oct b) : Oct (a ++ b) := fun y hy => (List.mem_append.1 hy).elim (h1 y) (h2 y)

theorem insBx_oct (x : Ins) (hop : 1 ≤ x.op ∧ x.op ≤ 16) (hf : ∀ f ∈ opF (opN x.op), 0 ≤ f.get x ∧ f.get x < 256) (hc : chk x.k x.i x.t = 0) (hi : InsOk x) : Oct (insBx x) := by
  rw [insBx_eq]
  refine oct_app (fun y hy => by simp at hy; omega) (oct_app ?_ ?_)
  · intro y hy
    obtain ⟨f, hf1, hf2⟩ := List.mem_flatMap.1 hy
    exact fldV_oct f _ (hf f hf1).1 (hf f hf1).2 y hf2
  · split
    · have hl := encB_len x.k x.i x.t hc hi.1 hi.2
      exact oct_app (oct_row 10 _ (by omega) (by have := hl.1; omega)) hl.2
    · exact fun y hy => by simp at hy

theorem procB_oct (nm : ByteArray) (ar : Int) (xs : List Ins) (hE : (procChk nm ar xs).2 = 0) (hi : ∀ x ∈ xs, InsOk x) : Oct (procB nm ar xs) := by
  have g := good_of hE
  have h1 := g.a0
  have h2 := g.a1
  have h3 := g.len
  have h4 := g.size
  have h5 := strBs_len nm
  unfold procB
  refine oct_app (oct_app (oct_app (oct_app (oct_row 10 _ (by omega) (by omega)) (oct_str nm)) (oct_row 10 _ h1 (by omega))) (oct_row 10 _ (by omega) (by omega))) ?_
  intro y hy
  obtain ⟨x, hx1, hx2⟩ := List.mem_flatMap.1 hy
  obtain ⟨j, hj⟩ := List.getElem?_of_mem hx1
  obtain ⟨q1, q2, q3⟩ := g.at hj
  exact insBx_oct x q1 q2 q3 (hi x hx1) y hx2

theorem procB_len (nm : ByteArray) (ar : Int) (xs : List Ins) (hE : (procChk nm ar xs).2 = 0) (hi : ∀ x ∈ xs, InsOk x) : (procB nm ar xs).length ≤ 100000000 := by
  have g := good_of hE
  have h4 := g.size
  have h5 := strBs_len nm
  have h3 := g.len
  have r1 := rowF_le 10 ((strBs nm).length : Nat)
  have r2 := rowF_le 10 ar
  have r3 := rowF_le 10 (xs.length : Int)
  have hc := code_len xs (fun x hx => by
    obtain ⟨j, hj⟩ := List.getElem?_of_mem hx
    exact insBx_len x (g.at hj).2.2 (hi x hx))
  have : 1002000 * xs.length ≤ 1002000 * 64 := Nat.mul_le_mul_left _ h3
  unfold procB
  simp only [List.length_append]
  omega

/-- The law's two first blocks: the procedure, the instruction. -/
structure Bst (w W : World) (nm : ByteArray) (ar : Int) (S : Value) (x : Ins) : Prop where
  r0 : W.heap[w.heap.size]? = some (po nm ar S)
  r1 : W.heap[w.heap.size + 1]? = some (io x.op x.a x.b x.c x.n x.k x.i x.t)
  hb : Below w.heap.size w W

theorem Bst.below {w W W' : World} {nm : ByteArray} {ar : Int} {S : Value} {x : Ins} (h : Bst w W nm ar S x) (hb : Below W.heap.size W W') : Bst w W' nm ar S x :=
  ⟨blk_of hb h.r0 (lt_of h.r0), blk_of hb h.r1 (lt_of h.r1), below_on h.hb hb⟩

theorem bst_start (w : World) (nm : ByteArray) (ar : Int) (S : Value) (x : Ins) : Bst w ((w.alloc (po nm ar S)).alloc (io x.op x.a x.b x.c x.n x.k x.i x.t)) nm ar S x := ⟨two1 w _ _, two2 w _ _, below2 w _ _⟩

set_option maxRecDepth 100000 in
set_option maxHeartbeats 4000000 in
theorem back_err (nm : ByteArray) (ar : Int) (S : Value) (xs : List Ins) (x : Ins) (i : Int) (w : World) (h : Rf w 8 S xs.length (xs.flatMap Ins.cells)) (hi : ∀ x ∈ xs, InsOk x) (hl : (xs.length : Int) ≤ 65536) (hE : (procChk nm ar xs).2 ≠ 0) :
    Calls Try.prog 6 #[.agg #[.string nm, .int .i64 ar, S], x.val, .int .i64 i] w fun x w' => x = .returned (.bool true) ∧ Below w.heap.size w w' := by
  obtain ⟨E1, E, hR⟩ : ∃ R1 R2, procChk nm ar xs = (R1, R2) := ⟨_, _, rfl⟩
  have HC := hid (fun W hW => pcheck_any nm ar S xs W hW (by omega))
  have HE := hid (fun W hW => pencode_any nm ar S xs W hW (by omega) hi)
  unfold PEnc at HE
  rw [hR] at HC HE hE
  dsimp only at HC HE hE
  have HH := hid (code_of_rf h)
  obtain ⟨ao, cap, rfl, _, _⟩ := h.shape
  have H0 := hid (bst_start w nm ar (.slice ao xs.length cap) x)
  have he2 : (E == 0) = false := by simpa using hE
  have HE0 := hid hE
  unfold Ins.val
  clear h hi hR hE
  go_enter Try.func6, Try.ntmps6
  go_wp2_with (first
    | (go_at_call 10
       refine (HC.out _ (HH.out.below H0.out.hb)).mono ?_
       rintro e w1 ⟨rfl, hb1⟩
       have H1 := hid (H0.out.below hb1)
       obtain ⟨p0, p1', p2', -⟩ := vfacts H1.out.r0
       clear hb1)
    | (go_at_call 14
       refine (HE.out _ (HH.out.below H1.out.hb)).mono ?_
       rintro e w2 (⟨-, rfl, hb2⟩ | ⟨h2, -⟩)
       rotate_left
       · exact absurd h2 HE0.out
       have H2 := hid (H1.out.below hb2)
       clear hb2)
    | (go_at_call 13
       refine (known_any _).mono ?_
       rintro e w3 ⟨rfl, hb3⟩
       have H3 := hid (below_on H2.out.hb hb3)
       clear hb3))
  go_ret
  exact ⟨rfl, H3.out⟩

theorem dst_code {W : World} {cb : Nat} {xs : List Ins} (hc : ∀ (j : Nat) (x : Ins), xs[j]? = some x → InsAt W cb (j * 8) x) : CodeAt W (.slice (some ⟨cb, 0, none⟩) xs.length xs.length) xs :=
  ⟨_, _, rfl, Nat.le_refl _, fun _ => ⟨cb, 0, rfl, fun j x hx => by rw [Nat.zero_add]; exact hc j x hx⟩⟩

/-- An instruction stored. -/
def put8 (W : World) (g o : Nat) (x : Ins) : World := ((((((((W.setCell ⟨g, o, none⟩ (.int .i64 x.op)).setCell ⟨g, o + 1, none⟩ (.int .i64 x.a)).setCell ⟨g, o + 2, none⟩ (.int .i64 x.b)).setCell ⟨g, o + 3, none⟩ (.int .i64 x.c)).setCell ⟨g, o + 4, none⟩ (.int .i64 x.n)).setCell ⟨g, o + 5, none⟩ (.int .i64 x.k)).setCell ⟨g, o + 6, none⟩ (.int .i64 x.i)).setCell ⟨g, o + 7, none⟩ (.string x.t))

theorem put8_block (W : World) (g o : Nat) (x : Ins) (k : Nat) (hk : k ≠ g) : (put8 W g o x).heap[k]? = W.heap[k]? := by
  unfold put8
  repeat rw [Below.heap_setCell _ _ _ _ hk]

theorem put8_kept (W : World) (g o : Nat) (x : Ins) : Kept (fun k => k = g) W (put8 W g o x) := by
  unfold put8
  exact ((((((((Kept.refl (fun k => k = g) W).setCell (p := ⟨g, o, none⟩) (fun _ => rfl) _).setCell (p := ⟨g, o + 1, none⟩) (fun _ => rfl) _).setCell (p := ⟨g, o + 2, none⟩) (fun _ => rfl) _).setCell (p := ⟨g, o + 3, none⟩) (fun _ => rfl) _).setCell (p := ⟨g, o + 4, none⟩) (fun _ => rfl) _).setCell (p := ⟨g, o + 5, none⟩) (fun _ => rfl) _).setCell (p := ⟨g, o + 6, none⟩) (fun _ => rfl) _).setCell (p := ⟨g, o + 7, none⟩) (fun _ => rfl) _

theorem put8_out (W : World) (g o : Nat) (x : Ins) (q : Nat) (hq : q < o ∨ o + 8 ≤ q) : (put8 W g o x).cell? ⟨g, q, none⟩ = W.cell? ⟨g, q, none⟩ := by
  unfold put8
  rw [cs_other (adr_ne (by omega)), cs_other (adr_ne (by omega)), cs_other (adr_ne (by omega)), cs_other (adr_ne (by omega)), cs_other (adr_ne (by omega)), cs_other (adr_ne (by omega)), cs_other (adr_ne (by omega)), cs_other (adr_ne (by omega))]

theorem put8_in (W : World) (g o : Nat) (x y : Ins) (h : InsAt W g o y) : InsAt (put8 W g o x) g o x := by
  have h1 := h.setOp x.op
  have h2 := h1.set .a x.a
  have h3 := h2.set .b x.b
  have h4 := h3.set .c x.c
  have h5 := h4.set .arg x.n
  exact h5.setV x.k x.i x.t

theorem put8_code {W : World} {g cap cN : Nat} {xs : List Ins} {x : Ins} (hcap : xs.length ≤ cap) (hc : ∀ (j : Nat) (y : Ins), xs[j]? = some y → InsAt W g (j * 8) y) (hlt : cN < xs.length) :
    CodeAt (put8 W g (cN * 8) x) (.slice (some ⟨g, 0, none⟩) xs.length cap) (xs.set cN x) := by
  refine ⟨_, _, by rw [List.length_set], by rw [List.length_set]; exact hcap, fun _ => ⟨g, 0, rfl, fun j y hy => ?_⟩⟩
  rw [Nat.zero_add]
  by_cases hj : j = cN
  · subst hj
    rw [List.getElem?_set_self hlt] at hy
    have hy := Option.some.inj hy
    subst hy
    exact put8_in W g (j * 8) x _ (hc j _ (List.getElem?_eq_getElem hlt))
  · rw [List.getElem?_set_ne (Ne.symm hj)] at hy
    exact (hc j y hy).moved (fun m hm => put8_out W g (cN * 8) x _ (by omega))

set_option maxRecDepth 100000 in
theorem ins_eql (x y : Ins) (w : World) : (binOp BinOp.eql 28 x.val y.val).run Try.prog w = .ok (.bool (decide (x = y))) w := by
  have h := ins_neq x y w
  rw [show x.val = .agg #[.int .i64 x.op, .int .i64 x.a, .int .i64 x.b, .int .i64 x.c, .int .i64 x.n, .int .i64 x.k, .int .i64 x.i, .string x.t] from rfl, show y.val = .agg #[.int .i64 y.op, .int .i64 y.a, .int .i64 y.b, .int .i64 y.c, .int .i64 y.n, .int .i64 y.k, .int .i64 y.i, .string y.t] from rfl] at h ⊢
  rw [run_neq_struct] at h
  rw [run_eql_struct]
  cases hr : (Op.equalIn 10000 28 (.agg #[.int .i64 x.op, .int .i64 x.a, .int .i64 x.b, .int .i64 x.c, .int .i64 x.n, .int .i64 x.k, .int .i64 x.i, .string x.t]) (.agg #[.int .i64 y.op, .int .i64 y.a, .int .i64 y.b, .int .i64 y.c, .int .i64 y.n, .int .i64 y.k, .int .i64 y.i, .string y.t])).run Try.prog w with
  | ok b w2 =>
    rw [hr] at h
    simp only [Result.andThen_ok] at h ⊢
    injection h with h1 h2
    injection h1 with h1
    rw [h2]
    congr 2
    cases b <;> cases hd : decide (x = y) <;> simp_all
  | _ => rw [hr] at h; simp [Result.andThen] at h

/-- The same bytes, just if it is the same instruction. -/
theorem set_same (nm : ByteArray) (ar : Int) (xs : List Ins) (x y : Ins) (cN : Nat) (hE : (procChk nm ar xs).2 = 0) (hi : ∀ x ∈ xs, InsOk x) (hx : InsOk x) (hy : xs[cN]? = some y) (hE2 : (procChk nm ar (xs.set cN x)).2 = 0) :
    decide (procB nm ar xs = procB nm ar (xs.set cN x)) = decide (x = y) := by
  have hi2 : ∀ z ∈ xs.set cN x, InsOk z := fun z hz => (List.mem_or_eq_of_mem_set hz).elim (hi z) (fun e => e ▸ hx)
  have hlt : cN < xs.length := (List.getElem?_eq_some_iff.1 hy).1
  by_cases hxy : x = y
  · subst hxy
    have e : xs.set cN x = xs := by
      apply List.ext_getElem?
      intro j
      by_cases hj : cN = j
      · subst hj; rw [List.getElem?_set_self hlt, hy]
      · rw [List.getElem?_set_ne hj]
    rw [e]
    simp
  · have hne : procB nm ar xs ≠ procB nm ar (xs.set cN x) := by
      intro e
      have d1 := dec_procB nm ar xs hE hi
      have d2 := dec_procB nm ar (xs.set cN x) hE2 hi2
      rw [e, d2] at d1
      injection d1 with d1
      injection d1 with _ d1
      injection d1 with _ d1
      have := congrArg (fun l => l[cN]?) d1
      simp only [List.getElem?_set_self hlt, hy] at this
      exact hxy (Option.some.inj this)
    rw [decide_eq_false hne, decide_eq_false hxy]

theorem tw_at {w W : World} {g g2 : Nat} {cur : Array Value} {xs zs : List Ins} {bs : List Int} (hg : w.heap.size ≤ g) (_hb : W.heap[g]? = some (.cells cur 28 (0, 0))) (hc : ∀ (j : Nat) (x : Ins), (xs ++ zs)[j]? = some x → InsAt W g (j * 8) x) (_hB : Below w.heap.size w W) (ho : Own w g2 bs) :
    (∀ (j : Nat) (x : Ins), xs[j]? = some x → InsAt W g (j * 8) x) ∧ g2 ≠ g := by
  refine ⟨fun j x hx => hc j x ?_, by have := lt_of ho; omega⟩
  rw [List.getElem?_append_left (List.getElem?_eq_some_iff.1 hx).1]
  exact hx

/-- Behind the store. -/
structure Bk2 (w W : World) (nm : ByteArray) (ar : Int) (S : Value) (x : Ins) (g2 : Nat) (bs : List Int) (S2 : Value) (ys : List Ins) (r : Nat) : Prop where
  st : Bst w W nm ar S x
  ow : Own W g2 bs
  co : CodeAt W S2 ys
  t : W.heap[r]? = some (po nm ar S2)

theorem bk_world {w w4 w5 : World} {nm : ByteArray} {ar : Int} {S : Value} {x : Ins} {g g2 c5 cN : Nat} {bs : List Int} {xs : List Ins} {cur : Array Value}
    (h : Bst w w5 nm ar S x ∧ Own w5 g2 bs ∧ ((∀ (j : Nat) (y : Ins), xs[j]? = some y → InsAt w5 g (j * 8) y) ∧ g2 ≠ g) ∧ xs.length + 9 ≤ c5 ∧ w5.heap[g]? = some (.cells cur 28 (0, 0)) ∧ w4.heap.size ≤ g ∧ w.heap.size + 1 < w4.heap.size) (hlt : cN < xs.length) :
    Bk2 w ((put8 w5 g (cN * 8) x).alloc (po nm ar (.slice (some ⟨g, 0, none⟩) xs.length c5))) nm ar S x g2 bs (.slice (some ⟨g, 0, none⟩) xs.length c5) (xs.set cN x) w5.heap.size := by
  obtain ⟨hs, ho, ⟨hc, hne⟩, hc5, hb, hg, hl⟩ := h
  have hz : (put8 w5 g (cN * 8) x).heap.size = w5.heap.size := by simp [put8, World.setCell]
  have k := put8_kept w5 g (cN * 8) x
  have b0 := (k.block _ (lt_of hs.r0) (by omega)).trans hs.r0
  have b1 := (k.block _ (lt_of hs.r1) (by omega)).trans hs.r1
  have b2 := (k.block _ (lt_of ho) hne).trans ho
  have hB : Below w.heap.size w (put8 w5 g (cN * 8) x) := hs.hb.trans (k.below hs.hb.size (fun q hq e => by omega))
  have hco := put8_code (W := w5) (x := x) (cap := c5) (by omega) hc hlt
  have hn := heap_alloc_new (put8 w5 g (cN * 8) x) (po nm ar (.slice (some ⟨g, 0, none⟩) xs.length c5))
  rw [hz] at hn
  have hbb := below1 (put8 w5 g (cN * 8) x) (po nm ar (.slice (some ⟨g, 0, none⟩) xs.length c5))
  exact ⟨⟨blk_of hbb b0 (lt_of b0), blk_of hbb b1 (lt_of b1), below_on hB hbb⟩, blk_of hbb b2 (lt_of b2), hco.below hbb, hn⟩

theorem below_drew {w0 w w1 : World} (h0 : Below w0.heap.size w0 w) (h : Below w.drew.heap.size w.drew w1) : Below w0.heap.size w0 w1 := by
  have h' : Below w.heap.size w w1 := ⟨h.os, h.tape, h.output, h.size, h.block⟩
  exact below_on h0 h'

end Go.Proofs.Ytljfmbjibjoiiaa

namespace Go.Proofs.Ytljfmbjibjoiiaa
open Go.RowKit Go.Lib

theorem st_skip {P : Program} {ops : Array Oper} {w : World} {Q : Act → Prop} {o : Oper} {rest : List Oper} {a : Act} (h : Region.wanted o (yielded ops a.tmps) = false) (k : wpStill P ops w Q rest (a.put o.dst undef)) : wpStill P ops w Q (o :: rest) a := by
  unfold wpStill
  rw [if_neg (by rw [h]; decide)]
  exact k

theorem st_val {P : Program} {ops : Array Oper} {w : World} {Q : Act → Prop} {o : Oper} {rest : List Oper} {a : Act} (v : Value) (h : Region.wanted o (yielded ops a.tmps) = true) (e : (execOp a.eval o).run P w = .ok (.value v) w) (k : wpStill P ops w Q rest (a.put o.dst v)) : wpStill P ops w Q (o :: rest) a := by
  unfold wpStill
  rw [if_pos h]
  unfold Oper.still
  rw [e, Oper.stillUpon_value]
  exact k

theorem exec_neq (F2 : Int) (hF2 : (F2 == 0) = false) (ρ : Operand → Value) (o : Oper) (t x : Nat) (ho : o.op = .binOp BinOp.neq 30 (.tmp x) (.const (.int .i64 0)) t) (hx : ρ (.tmp x) = .int .i64 F2) (hy : ρ (.const (.int .i64 0)) = .int .i64 0) (W : World) : (execOp ρ o).run Try.prog W = .ok (.value (.bool true)) W := by
  unfold execOp
  rw [ho]
  dsimp only
  rw [hx, hy]
  go_simp
  simpa using hF2


theorem ev_self {a : Act} {d : Nat} {v : Value} (h : d < a.tmps.size) : (a.put (some d) v).eval (.tmp d) = v := by simp [Act.put, Act.eval, h]
theorem sz_put {a : Act} {d : Option Nat} {v : Value} {n : Nat} (h : n < a.tmps.size) : n < (a.put d v).tmps.size := by
  cases d <;> simp [Act.put, h]

/-! The operations of the law's last statement. -/
def o0 (s : String) : Oper := { dst := some 87, op := Op.move (Operand.tmp 15), type := 30, pos := s, after := #[], guard := none }
def o1 (s : String) : Oper := { dst := some 88, op := Op.binOp BinOp.neq 30 (Operand.tmp 87) (Operand.const (Value.int IntKind.i64 0)) 30, type := 4, pos := s, after := #[{ on := 0, ground := Ground.data }], guard := none }
def o2 (s : String) : Oper := { dst := some 89, op := Op.move (Operand.tmp 88), type := 4, pos := s, after := #[{ on := 1, ground := Ground.data }], guard := none }
def o3 (s : String) : Oper := { dst := some 90, op := Op.move (Operand.tmp 9), type := 38, pos := s, after := #[{ on := 2, ground := Ground.guard }], guard := some (2, false) }
def o4 (s : String) : Oper := { dst := some 91, op := Op.move (Operand.tmp 14), type := 38, pos := s, after := #[{ on := 2, ground := Ground.guard }], guard := some (2, false) }
def o5 (s : String) : Oper := { dst := some 92, op := Op.call { callee := Callee.value (Operand.func 16), args := #[Operand.tmp 90, Operand.tmp 91], argTypes := #[38, 38] }, type := 4, pos := s, after := #[{ on := 3, ground := Ground.data }, { on := 4, ground := Ground.data }, { on := 2, ground := Ground.chain }, { on := 2, ground := Ground.guard }], guard := some (2, false) }
def o6 (s : String) : Oper := { dst := some 93, op := Op.load 28 (Operand.tmp 4), type := 28, pos := s, after := #[{ on := 2, ground := Ground.guard }], guard := some (2, false) }
def o7 (s : String) : Oper := { dst := some 94, op := Op.fieldAddr 24 (Operand.tmp 3) 2, type := 0, pos := s, after := #[{ on := 2, ground := Ground.guard }], guard := some (2, false) }
def o8 (s : String) : Oper := { dst := some 95, op := Op.load 22 (Operand.tmp 94), type := 22, pos := s, after := #[{ on := 7, ground := Ground.data }, { on := 2, ground := Ground.guard }], guard := some (2, false) }
def o9 (s : String) : Oper := { dst := some 96, op := Op.move (Operand.tmp 2), type := 3, pos := s, after := #[{ on := 2, ground := Ground.guard }], guard := some (2, false) }
def o10 (s : String) : Oper := { dst := some 97, op := Op.indexAddr 22 (Operand.tmp 95) (Operand.tmp 96), type := 0, pos := s, after := #[{ on := 8, ground := Ground.data }, { on := 9, ground := Ground.data }, { on := 2, ground := Ground.guard }], guard := some (2, false) }
def o11 (s : String) : Oper := { dst := some 98, op := Op.load 28 (Operand.tmp 97), type := 28, pos := s, after := #[{ on := 10, ground := Ground.data }, { on := 2, ground := Ground.guard }], guard := some (2, false) }
def o12 (s : String) : Oper := { dst := some 99, op := Op.binOp BinOp.eql 28 (Operand.tmp 93) (Operand.tmp 98) 28, type := 4, pos := s, after := #[{ on := 6, ground := Ground.data }, { on := 11, ground := Ground.data }, { on := 2, ground := Ground.guard }], guard := some (2, false) }
def o13 (s : String) : Oper := { dst := some 100, op := Op.binOp BinOp.eql 4 (Operand.tmp 92) (Operand.tmp 99) 4, type := 4, pos := s, after := #[{ on := 5, ground := Ground.data }, { on := 12, ground := Ground.data }, { on := 2, ground := Ground.guard }], guard := some (2, false) }
def o14 (s : String) : Oper := { dst := some 101, op := Op.pick (Operand.tmp 89) (Operand.const (Value.bool true)) (Operand.tmp 100), type := 4, pos := s, after := #[{ on := 2, ground := Ground.data }, { on := 13, ground := Ground.data }], guard := none }
def o15 (s : String) : Oper := { dst := some 102, op := Op.move (Operand.tmp 101), type := 4, pos := s, after := #[{ on := 14, ground := Ground.data }, { on := 5, ground := Ground.chain }], guard := none }
def o16 (s : String) : Oper := { dst := some 103, op := Op.call { callee := Callee.value (Operand.func 13), args := #[], argTypes := #[] }, type := 4, pos := s, after := #[{ on := 15, ground := Ground.chain }, { on := 15, ground := Ground.guard }], guard := some (15, true) }
def o17 (s : String) : Oper := { dst := some 104, op := Op.pick (Operand.tmp 102) (Operand.tmp 103) (Operand.const (Value.bool false)), type := 4, pos := s, after := #[{ on := 15, ground := Ground.data }, { on := 16, ground := Ground.data }], guard := none }
def o18 (s : String) : Oper := { dst := some 6, op := Op.assign (Operand.tmp 104), type := 4, pos := s, after := #[{ on := 17, ground := Ground.data }, { on := 16, ground := Ground.chain }, { on := 0, ground := Ground.phase }, { on := 1, ground := Ground.phase }, { on := 2, ground := Ground.phase }, { on := 3, ground := Ground.phase }, { on := 4, ground := Ground.phase }, { on := 5, ground := Ground.phase }, { on := 6, ground := Ground.phase }, { on := 7, ground := Ground.phase }, { on := 8, ground := Ground.phase }, { on := 9, ground := Ground.phase }, { on := 10, ground := Ground.phase }, { on := 11, ground := Ground.phase }, { on := 12, ground := Ground.phase }, { on := 13, ground := Ground.phase }, { on := 14, ground := Ground.phase }, { on := 15, ground := Ground.phase }, { on := 16, ground := Ground.phase }, { on := 17, ground := Ground.phase }], guard := none }
def ops20 (s : String) : List Oper := [o0 s, o1 s, o2 s, o3 s, o4 s, o5 s, o6 s, o7 s, o8 s, o9 s, o10 s, o11 s, o12 s, o13 s, o14 s, o15 s, o16 s, o17 s, o18 s]

theorem y_of {s : String} {a : Act} {b : Bool} (h : a.tmps[89]? = some (.bool b)) : yielded (ops20 s).toArray a.tmps 2 = some b := by
  unfold yielded
  rw [show ((ops20 s).toArray[2]?).bind (·.dst) = some 89 from rfl]
  simp [h]

theorem t_self {a : Act} {d : Nat} {v : Value} (h : d < a.tmps.size) : (a.put (some d) v).tmps[d]? = some v := by simp [Act.put, h]

theorem t_put {a : Act} {d : Nat} {v x : Value} (hd : 89 ≠ d) (h : a.tmps[89]? = some x) : (a.put (some d) v).tmps[89]? = some x := by
  simp only [Act.put]
  rw [Array.getElem?_setIfInBounds_ne (by omega)]
  exact h

theorem no20 {s : String} {a : Act} {o : Oper} (h : a.tmps[89]? = some (.bool true)) (ho : o.guard = some (2, false)) : Region.wanted o (yielded (ops20 s).toArray a.tmps) = false := by
  unfold Region.wanted
  rw [ho]
  simp [y_of h]

theorem pick20 {a : Act} {o : Oper} {W : World} {t : Nat} (h : a.tmps[89]? = some (.bool true)) (ho : o.op = .pick (.tmp 89) (.const (.bool true)) (.tmp t) := by rfl) : (execOp a.eval o).run Try.prog W = .ok (.value (.bool true)) W := by
  have e : a.eval (.tmp 89) = .bool true := by simp [Act.eval, h]
  unfold execOp
  rw [ho]
  dsimp only
  rw [e]
  rfl

theorem mov20 {a : Act} {o : Oper} {W : World} (h : 101 < a.tmps.size) (ho : o.op = .move (.tmp 101) := by rfl) : (execOp (a.put (some 101) (.bool true)).eval o).run Try.prog W = .ok (.value (.bool true)) W := by
  have e : (a.put (some 101) (.bool true)).eval (.tmp 101) = .bool true := ev_self h
  unfold execOp
  rw [ho]
  dsimp only
  rw [e]
  rfl

theorem sk20 {P : Program} {ops : Array Oper} {w : World} {Q : Act → Prop} {o : Oper} {rest : List Oper} {a : Act} (d : Nat) (hd : o.dst = some d) (h : Region.wanted o (yielded ops a.tmps) = false) (k : wpStill P ops w Q rest (a.put (some d) undef)) : wpStill P ops w Q (o :: rest) a := st_skip h (by rw [hd]; exact k)
theorem vl20 {P : Program} {ops : Array Oper} {w : World} {Q : Act → Prop} {o : Oper} {rest : List Oper} {a : Act} (d : Nat) (v : Value) (hd : o.dst = some d) (hg : o.guard = none) (e : (execOp a.eval o).run P w = .ok (.value v) w) (k : wpStill P ops w Q rest (a.put (some d) v)) : wpStill P ops w Q (o :: rest) a := st_val v (by unfold Region.wanted; rw [hg]) e (by rw [hd]; exact k)

theorem mv20 {a : Act} {o : Oper} {W : World} {v : Value} (t : Nat) (ho : o.op = .move (.tmp t)) (e : a.eval (.tmp t) = v) : (execOp a.eval o).run Try.prog W = .ok (.value v) W := by
  unfold execOp
  rw [ho]
  dsimp only
  rw [e]
  rfl

/-- The eleven that are struck out. -/
def putL (L : List Oper) (a : Act) : Act := L.foldl (fun a o => a.put o.dst undef) a
def L11 (s : String) : List Oper := [o3 s, o4 s, o5 s, o6 s, o7 s, o8 s, o9 s, o10 s, o11 s, o12 s, o13 s]

theorem mid20 (s : String) (W : World) (Q : Act → Prop) (rest : List Oper) : ∀ (L : List Oper) (a : Act), (∀ o ∈ L, o.guard = some (2, false) ∧ ∃ d, o.dst = some d ∧ 89 ≠ d) → a.tmps[89]? = some (.bool true) → wpStill Try.prog (ops20 s).toArray W Q rest (putL L a) → wpStill Try.prog (ops20 s).toArray W Q (L ++ rest) a
  | [], _, _, _, hk => hk
  | o :: L, a, h, t, hk => by
    obtain ⟨hg, d, hd, hn⟩ := h o List.mem_cons_self
    refine sk20 d hd (no20 t hg) ?_
    refine mid20 s W Q rest L _ (fun o' ho' => h o' (List.mem_cons_of_mem _ ho')) (t_put hn t) ?_
    have e : putL (o :: L) a = putL L (a.put (some d) undef) := by unfold putL; rw [List.foldl_cons, hd]
    rw [← e]
    exact hk

theorem putL_at : ∀ (L : List Oper) (a : Act), (∀ o ∈ L, o.guard = some (2, false) ∧ ∃ d, o.dst = some d ∧ 89 ≠ d) → a.tmps[89]? = some (.bool true) → (putL L a).tmps[89]? = some (.bool true)
  | [], _, _, t => t
  | o :: L, a, h, t => by
    obtain ⟨_, d, hd, hn⟩ := h o List.mem_cons_self
    have e : putL (o :: L) a = putL L (a.put (some d) undef) := by unfold putL; rw [List.foldl_cons, hd]
    rw [e]
    exact putL_at L _ (fun o' ho' => h o' (List.mem_cons_of_mem _ ho')) (t_put hn t)

theorem putL_sz (n : Nat) : ∀ (L : List Oper) (a : Act), n < a.tmps.size → n < (putL L a).tmps.size
  | [], _, h => h
  | o :: L, a, h => by
    have e : putL (o :: L) a = putL L (a.put o.dst undef) := rfl
    rw [e]
    exact putL_sz n L _ (sz_put h)

theorem L11_ok (s : String) : ∀ o ∈ L11 s, o.guard = some (2, false) ∧ ∃ d, o.dst = some d ∧ 89 ≠ d := by
  intro o ho
  simp only [L11, List.mem_cons, List.not_mem_nil, or_false] at ho
  rcases ho with rfl | rfl | rfl | rfl | rfl | rfl | rfl | rfl | rfl | rfl | rfl
  · exact ⟨rfl, 90, rfl, by decide⟩
  · exact ⟨rfl, 91, rfl, by decide⟩
  · exact ⟨rfl, 92, rfl, by decide⟩
  · exact ⟨rfl, 93, rfl, by decide⟩
  · exact ⟨rfl, 94, rfl, by decide⟩
  · exact ⟨rfl, 95, rfl, by decide⟩
  · exact ⟨rfl, 96, rfl, by decide⟩
  · exact ⟨rfl, 97, rfl, by decide⟩
  · exact ⟨rfl, 98, rfl, by decide⟩
  · exact ⟨rfl, 99, rfl, by decide⟩
  · exact ⟨rfl, 100, rfl, by decide⟩

def a3 (a : Act) (F2 : Int) : Act := ((a.put (some 87) (.int .i64 F2)).put (some 88) (.bool true)).put (some 89) (.bool true)
def a16 (s : String) (a : Act) (F2 : Int) : Act := ((putL (L11 s) (a3 a F2)).put (some 101) (.bool true)).put (some 102) (.bool true)

theorem pre20 (s : String) (a : Act) (W : World) (F2 : Int) (hF2 : (F2 == 0) = false) (hs : 104 < a.tmps.size) (h15 : a.eval (.tmp 15) = .int .i64 F2) (Q : Act → Prop) (rest : List Oper) (hk : wpStill Try.prog (ops20 s).toArray W Q rest (a3 a F2)) : wpStill Try.prog (ops20 s).toArray W Q (o0 s :: o1 s :: o2 s :: rest) a := by
  refine vl20 87 (.int .i64 F2) rfl rfl (mv20 15 rfl h15) ?_
  have h87 : (a.put (some 87) (.int .i64 F2)).eval (.tmp 87) = .int .i64 F2 := ev_self (by omega)
  have h88 : 88 < (a.put (some 87) (.int .i64 F2)).tmps.size := sz_put (by omega)
  unfold a3 at hk
  generalize a.put (some 87) (.int .i64 F2) = b at *
  refine vl20 88 (.bool true) rfl rfl (exec_neq F2 hF2 _ _ _ 87 rfl h87 rfl _) ?_
  have h89 : (b.put (some 88) (.bool true)).eval (.tmp 88) = .bool true := ev_self h88
  generalize b.put (some 88) (.bool true) = c at *
  exact vl20 89 (.bool true) rfl rfl (mv20 88 rfl h89) hk

theorem post20 (s : String) (b : Act) (W : World) (Q : Act → Prop) (t : b.tmps[89]? = some (.bool true)) (hz : 101 < b.tmps.size) (hQ : Q ((b.put (some 101) (.bool true)).put (some 102) (.bool true))) : wpStill Try.prog (ops20 s).toArray W Q [o14 s, o15 s] b := by
  refine vl20 101 (.bool true) rfl rfl (pick20 t rfl) ?_
  have h1 : (b.put (some 101) (.bool true)).eval (.tmp 101) = .bool true := ev_self hz
  generalize b.put (some 101) (.bool true) = c at *
  exact vl20 102 (.bool true) rfl rfl (mv20 101 rfl h1) (wpStill_nil hQ)

theorem take20 (s : String) : (ops20 s).take 16 = o0 s :: o1 s :: o2 s :: (L11 s ++ [o14 s, o15 s]) := rfl

theorem head20 (s : String) (a : Act) (W : World) (F2 : Int) (hF2 : (F2 == 0) = false) (hs : 104 < a.tmps.size) (h15 : a.eval (.tmp 15) = .int .i64 F2) (Q : Act → Prop) (hQ : Q (a16 s a F2)) : wpStill Try.prog (ops20 s).toArray W Q ((ops20 s).take 16) a := by
  have h89 : 89 < ((a.put (some 87) (.int .i64 F2)).put (some 88) (.bool true)).tmps.size := sz_put (sz_put (by omega))
  have t : (a3 a F2).tmps[89]? = some (.bool true) := t_self h89
  have hz : 101 < (a3 a F2).tmps.size := sz_put (sz_put (sz_put (by omega)))
  rw [take20]
  refine pre20 s a W F2 hF2 hs h15 Q _ ?_
  unfold a16 at hQ
  generalize a3 a F2 = b at *
  refine mid20 s W Q _ (L11 s) b (L11_ok s) t ?_
  have t2 := putL_at _ _ (L11_ok s) t
  have z2 := putL_sz _ (L11 s) _ hz
  generalize putL (L11 s) b = c at *
  exact post20 s c W Q t2 z2 hQ

end Go.Proofs.Ytljfmbjibjoiiaa

namespace Go.Proofs.Ytljfmbjibjoiiaa
open Go.RowKit Go.Lib

theorem put_some (a : Act) (d : Nat) (v : Value) : a.put (some d) v = { tmps := a.tmps.setIfInBounds d v, defers := a.defers } := rfl


theorem reg20 (s : String) (a : Act) (W : World) (F2 : Int) (hF2 : (F2 == 0) = false) (hs : 104 < a.tmps.size) (h15 : a.eval (.tmp 15) = .int .i64 F2) (Q : Exit → Act → World → Prop)
    (hQ : ∀ w', Below W.heap.size W w' → Q .normal ((((a16 s a F2).put (some 103) (.bool true)).put (some 104) (.bool true)).put (some 6) (.bool true)) w') : (Code.region 20 (ops20 s).toArray true).wp Try.prog Q a W := by
  refine wp_region_still_tail 16 (by kernel_rfl) (by kernel_rfl) ?_
  refine head20 s a _ F2 hF2 hs h15 _ ?_
  have z : 102 < ((putL (L11 s) (a3 a F2)).put (some 101) (.bool true)).tmps.size := sz_put (putL_sz _ _ _ (sz_put (sz_put (sz_put (by omega)))))
  have z2 : 104 < (a16 s a F2).tmps.size := sz_put (sz_put (putL_sz _ _ _ (sz_put (sz_put (sz_put (by omega))))))
  have t : (a16 s a F2).tmps[102]? = some (.bool true) := t_self z
  generalize a16 s a F2 = b at t z2 hQ ⊢
  show wpList Try.prog (ops20 s).toArray Q [o16 s, o17 s, o18 s] b W.drew
  have e1 : b.eval (.tmp 102) = .bool true := by simp [Act.eval, t]
  unfold wpList
  rw [if_pos (by unfold Region.wanted yielded; simp [ops20, o16, o15, t])]
  left
  generalize hK : wpList Try.prog (ops20 s).toArray Q [o17 s, o18 s] = K
  unfold o16
  go_simp
  refine (known_any W.drew).mono ?_
  rintro e w8 ⟨rfl, hb8⟩
  have hb : Below W.heap.size W w8 := ⟨hb8.os, hb8.tape, hb8.output, hb8.size, hb8.block⟩
  have hQ := hQ w8 hb
  clear hb8 hb
  have e2 : (b.put (some 103) (.bool true)).eval (.tmp 103) = .bool true := ev_self (by omega)
  have e3 : (b.put (some 103) (.bool true)).eval (.tmp 102) = .bool true := (Act.eval_put (fun d hd => by injection hd with hd; subst hd; intro h; injection h with h; exact absurd h (by decide))).trans e1
  have e4 : ((b.put (some 103) (.bool true)).put (some 104) (.bool true)).eval (.tmp 104) = .bool true := ev_self (sz_put (by omega))
  subst hK
  dsimp only
  rw [← put_some]
  unfold wpList
  rw [if_pos (by rfl)]
  left
  generalize hK : wpList Try.prog (ops20 s).toArray Q [o18 s] = K
  generalize b.put (some 103) (.bool true) = c at *
  have e2' : c.tmps[103]?.getD undef = .bool true := by simpa [Act.eval] using e2
  have e3' : c.tmps[102]?.getD undef = .bool true := by simpa [Act.eval] using e3
  clear e2 e3
  unfold o17
  go_simp
  subst hK
  rw [← put_some]
  unfold wpList
  rw [if_pos (by rfl)]
  left
  generalize c.put (some 104) (.bool true) = d at *
  have e4' : d.tmps[104]?.getD undef = .bool true := by simpa [Act.eval] using e4
  clear e4
  unfold o18
  go_simp
  rw [← put_some]
  unfold wpList
  exact hQ

end Go.Proofs.Ytljfmbjibjoiiaa
