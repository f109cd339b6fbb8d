import Derived.Test.YtdnlfacfleemeaaGreatK33
namespace Go.Proofs.YtdnlfacfleemeaaGreat
open Go.RowKit Go.Lib

/-! The operations of the statement that reads one field. -/
def q0 (s : String) : Oper := { dst := some 74, op := Op.load 74 (Operand.tmp 4), type := 74, pos := s, after := #[], guard := none }
def q1 (s : String) : Oper := { dst := some 75, op := Op.load 53 (Operand.tmp 9), type := 53, pos := s, after := #[], guard := none }
def q2 (s : String) : Oper := { dst := some 76, op := Op.move (Operand.tmp 10), type := 9, pos := s, after := #[], guard := none }
def q3 (s : String) : Oper := { dst := some 77, op := Op.move (Operand.tmp 11), type := 3, pos := s, after := #[], guard := none }
def q4 (s : String) : Oper := { dst := some 78, op := Op.index 9 (Operand.tmp 76) (Operand.tmp 77), type := 5, pos := s, after := #[{ on := 2, ground := Ground.data }, { on := 3, ground := Ground.data }], guard := none }
def q5 (s : String) : Oper := { dst := some 79, op := Op.call { callee := Callee.value (Operand.func 84), args := #[Operand.tmp 74, Operand.tmp 75, Operand.tmp 78], argTypes := #[74, 53, 5] }, type := 152, pos := s, after := #[{ on := 0, ground := Ground.data }, { on := 1, ground := Ground.data }, { on := 4, ground := Ground.data }], guard := none }
def q6 (s : String) : Oper := { dst := some 73, op := Op.move (Operand.tmp 79), type := 152, pos := s, after := #[{ on := 5, ground := Ground.data }], guard := none }
def q7 (s : String) : Oper := { dst := some 80, op := Op.extract (Operand.tmp 73) 0, type := 74, pos := s, after := #[{ on := 6, ground := Ground.data }], guard := none }
def q8 (s : String) : Oper := { dst := some 81, op := Op.extract (Operand.tmp 73) 1, type := 53, pos := s, after := #[{ on := 6, ground := Ground.data }, { on := 10, ground := Ground.gcOnly Departure.lateStores }], guard := none }
def q9 (s : String) : Oper := { dst := some 82, op := Op.extract (Operand.tmp 73) 2, type := 3, pos := s, after := #[{ on := 6, ground := Ground.data }, { on := 11, ground := Ground.gcOnly Departure.lateStores }], guard := none }
def q10 (s : String) : Oper := { dst := none, op := Op.store 74 (Operand.tmp 4) (Operand.tmp 80), type := 0, pos := s, after := #[{ on := 7, ground := Ground.data }, { on := 5, ground := Ground.chain }, { on := 0, ground := Ground.phase }, { on := 1, ground := Ground.phase }, { on := 2, ground := Ground.phase }, { on := 3, ground := Ground.phase }, { on := 4, ground := Ground.phase }, { on := 5, ground := Ground.phase }, { on := 6, ground := Ground.phase }, { on := 7, ground := Ground.phase }, { on := 8, ground := Ground.textOnly Departure.lateStores }, { on := 9, ground := Ground.textOnly Departure.lateStores }], guard := none }
def q11 (s : String) : Oper := { dst := none, op := Op.store 53 (Operand.tmp 9) (Operand.tmp 81), type := 0, pos := s, after := #[{ on := 8, ground := Ground.data }, { on := 10, ground := Ground.chain }, { on := 0, ground := Ground.phase }, { on := 1, ground := Ground.phase }, { on := 2, ground := Ground.phase }, { on := 3, ground := Ground.phase }, { on := 4, ground := Ground.phase }, { on := 5, ground := Ground.phase }, { on := 6, ground := Ground.phase }, { on := 7, ground := Ground.phase }, { on := 8, ground := Ground.phase }, { on := 9, ground := Ground.textOnly Departure.lateStores }, { on := 10, ground := Ground.phase }], guard := none }
def q12 (s : String) : Oper := { dst := some 12, op := Op.assign (Operand.tmp 82), type := 3, pos := s, after := #[{ on := 9, ground := Ground.data }, { on := 11, ground := Ground.chain }, { on := 0, ground := Ground.phase }, { on := 1, ground := Ground.phase }, { on := 2, ground := Ground.phase }, { on := 3, ground := Ground.phase }, { on := 4, ground := Ground.phase }, { on := 5, ground := Ground.phase }, { on := 6, ground := Ground.phase }, { on := 7, ground := Ground.phase }, { on := 8, ground := Ground.phase }, { on := 9, ground := Ground.phase }, { on := 10, ground := Ground.phase }, { on := 11, ground := Ground.phase }], guard := none }
def ops26 (s : String) : List Oper := [q0 s, q1 s, q2 s, q3 s, q4 s, q5 s, q6 s, q7 s, q8 s, q9 s, q10 s, q11 s, q12 s]

theorem t_to {a : Act} {d t : Nat} {v x : Value} (h : a.tmps[t]? = some x) (hd : t ≠ d) : (a.put (some d) v).tmps[t]? = some x := by
  simp only [Act.put]
  rw [Array.getElem?_setIfInBounds_ne (by omega)]
  exact h

theorem ev_t {a : Act} {t : Nat} {x : Value} (h : a.tmps[t]? = some x) : a.eval (.tmp t) = x := by simp [Act.eval, h]

theorem ex_load4 {a : Act} {o : Oper} {w : World} {t r : Nat} {v0 v1 v2 v3 : Value} (ho : o.op = .load 74 (.tmp t)) (h : a.tmps[t]? = some (.pointer (some ⟨r, 0, none⟩)))
    (hr : w.heap[r]? = some (.cells #[v0, v1, v2, v3] 74 (0, 0))) : (execOp a.eval o).run Tryz.prog w = .ok (.value (.agg #[v0, v1, v2, v3])) w := by
  obtain ⟨p0, p1, p2, p3, pz⟩ := vfacts4 hr
  have e := ev_t h
  unfold execOp
  rw [ho]
  dsimp only
  rw [e]
  go_simp

theorem ex_load8 {a : Act} {o : Oper} {w : World} {t r : Nat} {x : Ins} (ho : o.op = .load 53 (.tmp t)) (h : a.tmps[t]? = some (.pointer (some ⟨r, 0, none⟩)))
    (hr : w.heap[r]? = some (io x.op x.a x.b x.c x.n x.k x.i x.t)) : (execOp a.eval o).run Tryz.prog w = .ok (.value x.val) w := by
  obtain ⟨x0, x1, x2, x3, x4, x5, x6, x7, xz⟩ := vfacts8 hr
  have e := ev_t h
  unfold execOp Ins.val
  rw [ho]
  dsimp only
  rw [e]
  go_simp

theorem ex_idx {a : Act} {o : Oper} {w : World} {L : ByteArray} {m : Nat} (hm : m < L.size) (ho : o.op = .index 9 (.tmp 76) (.tmp 77)) (h : a.tmps[76]? = some (.string L)) (h' : a.tmps[77]? = some (.int .i64 m)) :
    (execOp a.eval o).run Tryz.prog w = .ok (.value (.int .u8 ((L[m]'hm).toNat : Int))) w := by
  have e := ev_t h
  have e' := ev_t h'
  unfold execOp
  rw [ho]
  dsimp only
  rw [e, e']
  go_simp

theorem ex_ext {a : Act} {o : Oper} {w : World} {x y z : Value} (i : Nat) (v : Value) (ho : o.op = .extract (.tmp 73) i) (h : a.tmps[73]? = some (.tuple #[x, y, z])) (hv : #[x, y, z][i]? = some v) :
    (execOp a.eval o).run Tryz.prog w = .ok (.value v) w := by
  have e := ev_t h
  unfold execOp
  rw [ho]
  dsimp only
  rw [e]
  go_simp

/-- What is taken first. -/
theorem take26 {s : String} {Q : Exit → Act → World → Prop} {i : Nat} {oi : Oper} {d : Nat} {v : Value} {fuel : Nat} {listed listed' : Array Bool} {a : Act} {w : World} (hi : (ops26 s).toArray[i]? = some oi) (hd : oi.dst = some d) (hg : oi.guard = none)
    (hs : Region.noSelect (ops26 s).toArray = true) (hf : Region.free .any (ops26 s).toArray listed i = true) (hr : (Region.ready .any (ops26 s).toArray listed).contains i = true) (hl : listed.setIfInBounds i true = listed')
    (hQ : ∀ c a w, Q (.panic c) (a.put oi.dst v) w → Q (.panic c) a w) (hy : ∀ w, (execOp a.eval oi).run Tryz.prog w = .ok (.value v) w)
    (h : wpAnyH Tryz.prog .any (ops26 s).toArray Q (fun _ => True) fuel listed' (a.put (some d) v) w) : wpAnyH Tryz.prog .any (ops26 s).toArray Q (fun _ => True) (fuel + 1) listed a w := by
  subst hl
  exact wpAnyH_take hi hs hf hr hQ (Or.inl ⟨by unfold Region.wanted; rw [hg], fun w _ => hy w⟩) trivial (by rw [hd]; exact h)

def fin26 (a : Act) (X Y c T X2 Y2 E : Value) (L : ByteArray) (m : Nat) : Act :=
  ((((((((((a.put (some 74) X).put (some 75) Y).put (some 76) (.string L)).put (some 77) (.int .i64 m)).put (some 78) c).put (some 79) T).put (some 73) T).put (some 80) X2).put (some 81) Y2).put (some 82) E).put (some 12) E

theorem head26 (s : String) (a : Act) (W : World) (r rx : Nat) (v0 v1 v2 v3 : Value) (x : Ins) (L : ByteArray) (m : Nat) (hm : m < L.size) (hs : 82 < a.tmps.size)
    (h4 : a.tmps[4]? = some (.pointer (some ⟨r, 0, none⟩))) (h9 : a.tmps[9]? = some (.pointer (some ⟨rx, 0, none⟩))) (h10 : a.tmps[10]? = some (.string L)) (h11 : a.tmps[11]? = some (.int .i64 m))
    (hr : W.heap[r]? = some (.cells #[v0, v1, v2, v3] 74 (0, 0))) (hx : W.heap[rx]? = some (io x.op x.a x.b x.c x.n x.k x.i x.t)) (Q : Act → Prop)
    (hQ : ∀ b : Act, 82 < b.tmps.size → b.tmps[4]? = some (.pointer (some ⟨r, 0, none⟩)) → b.tmps[9]? = some (.pointer (some ⟨rx, 0, none⟩)) → b.tmps[74]? = some (.agg #[v0, v1, v2, v3]) → b.tmps[75]? = some x.val → b.tmps[78]? = some (.int .u8 ((L[m]'hm).toNat : Int)) →
      b = ((((a.put (some 74) (.agg #[v0, v1, v2, v3])).put (some 75) x.val).put (some 76) (.string L)).put (some 77) (.int .i64 m)).put (some 78) (.int .u8 ((L[m]'hm).toNat : Int)) → Q b) :
    wpStill Tryz.prog (ops26 s).toArray W Q [q0 s, q1 s, q2 s, q3 s, q4 s] a := by
  refine vl20 74 _ rfl rfl (ex_load4 rfl h4 hr) ?_
  have g74 := t_self (v := .agg #[v0, v1, v2, v3]) (show 74 < a.tmps.size by omega)
  have z1 : 82 < (a.put (some 74) (.agg #[v0, v1, v2, v3])).tmps.size := sz_put hs
  replace h4 := t_to (d := 74) (v := .agg #[v0, v1, v2, v3]) h4 (by decide)
  replace h9 := t_to (d := 74) (v := .agg #[v0, v1, v2, v3]) h9 (by decide)
  replace h10 := t_to (d := 74) (v := .agg #[v0, v1, v2, v3]) h10 (by decide)
  replace h11 := t_to (d := 74) (v := .agg #[v0, v1, v2, v3]) h11 (by decide)
  generalize a.put (some 74) (.agg #[v0, v1, v2, v3]) = b1 at *
  refine vl20 75 _ rfl rfl (ex_load8 rfl h9 hx) ?_
  have g75 := t_self (v := x.val) (show 75 < b1.tmps.size by omega)
  have z2 : 82 < (b1.put (some 75) x.val).tmps.size := sz_put z1
  replace h4 := t_to (d := 75) (v := x.val) h4 (by decide)
  replace h9 := t_to (d := 75) (v := x.val) h9 (by decide)
  replace h10 := t_to (d := 75) (v := x.val) h10 (by decide)
  replace h11 := t_to (d := 75) (v := x.val) h11 (by decide)
  replace g74 := t_to (d := 75) (v := x.val) g74 (by decide)
  generalize b1.put (some 75) x.val = b2 at *
  refine vl20 76 _ rfl rfl (mv20 10 rfl (ev_t h10)) ?_
  have g76 := t_self (v := .string L) (show 76 < b2.tmps.size by omega)
  have z3 : 82 < (b2.put (some 76) (.string L)).tmps.size := sz_put z2
  replace h4 := t_to (d := 76) (v := .string L) h4 (by decide)
  replace h9 := t_to (d := 76) (v := .string L) h9 (by decide)
  replace h11 := t_to (d := 76) (v := .string L) h11 (by decide)
  replace g74 := t_to (d := 76) (v := .string L) g74 (by decide)
  replace g75 := t_to (d := 76) (v := .string L) g75 (by decide)
  generalize b2.put (some 76) (.string L) = b3 at *
  refine vl20 77 _ rfl rfl (mv20 11 rfl (ev_t h11)) ?_
  have g77 := t_self (v := .int .i64 m) (show 77 < b3.tmps.size by omega)
  have z4 : 82 < (b3.put (some 77) (.int .i64 m)).tmps.size := sz_put z3
  replace h4 := t_to (d := 77) (v := .int .i64 m) h4 (by decide)
  replace h9 := t_to (d := 77) (v := .int .i64 m) h9 (by decide)
  replace g74 := t_to (d := 77) (v := .int .i64 m) g74 (by decide)
  replace g75 := t_to (d := 77) (v := .int .i64 m) g75 (by decide)
  replace g76 := t_to (d := 77) (v := .int .i64 m) g76 (by decide)
  generalize b3.put (some 77) (.int .i64 m) = b4 at *
  refine vl20 78 _ rfl rfl (ex_idx hm rfl g76 g77) ?_
  exact hQ _ (sz_put z4) (t_to h4 (by decide)) (t_to h9 (by decide)) (t_to g74 (by decide)) (t_to g75 (by decide)) (t_self (by omega)) rfl

theorem tail26 (s : String) (b : Act) (_W w8 : World) (r rx : Nat) (v0 v1 v2 v3 : Value) (ao : Option Addr) (N cc : Nat) (i1 i2 i3 E : Int) (x y : Ins) (hs : 82 < b.tmps.size)
    (h4 : b.tmps[4]? = some (.pointer (some ⟨r, 0, none⟩))) (h9 : b.tmps[9]? = some (.pointer (some ⟨rx, 0, none⟩))) (h79 : b.tmps[79]? = some (.tuple #[.agg #[.slice ao N cc, .int .i64 i1, .int .i64 i2, .int .i64 i3], y.val, .int .i64 E]))
    (hr : w8.heap[r]? = some (.cells #[v0, v1, v2, v3] 74 (0, 0))) (hx : w8.heap[rx]? = some (io x.op x.a x.b x.c x.n x.k x.i x.t)) (hne : r ≠ rx) (Q : Exit → Act → World → Prop)
    (hP : ∀ c d v a w, Q (.panic c) (a.put d v) w → Q (.panic c) a w)
    (hQ : Q .normal (((((b.put (some 73) (.tuple #[.agg #[.slice ao N cc, .int .i64 i1, .int .i64 i2, .int .i64 i3], y.val, .int .i64 E])).put (some 80) (.agg #[.slice ao N cc, .int .i64 i1, .int .i64 i2, .int .i64 i3])).put (some 81) y.val).put (some 82) (.int .i64 E)).put (some 12) (.int .i64 E)) (put8 (put4 w8 r (.slice ao N cc) (.int .i64 i1) (.int .i64 i2) (.int .i64 i3)) rx 0 y)) :
    wpAnyH Tryz.prog .any (ops26 s).toArray Q (fun _ => True) 7 #[true, true, true, true, true, true, false, false, false, false, false, false, false] b w8 := by
  refine take26 (i := 6) rfl rfl rfl (by kernel_rfl) (by kernel_rfl) (by kernel_rfl) rfl (fun c a w => hP c _ _ a w) (fun w => mv20 79 rfl (ev_t h79)) ?_
  have g73 := t_self (v := .tuple #[.agg #[.slice ao N cc, .int .i64 i1, .int .i64 i2, .int .i64 i3], y.val, .int .i64 E]) (show 73 < b.tmps.size by omega)
  have z1 : 82 < (b.put (some 73) (.tuple #[.agg #[.slice ao N cc, .int .i64 i1, .int .i64 i2, .int .i64 i3], y.val, .int .i64 E])).tmps.size := sz_put hs
  replace h4 := t_to (d := 73) (v := .tuple #[.agg #[.slice ao N cc, .int .i64 i1, .int .i64 i2, .int .i64 i3], y.val, .int .i64 E]) h4 (by decide)
  replace h9 := t_to (d := 73) (v := .tuple #[.agg #[.slice ao N cc, .int .i64 i1, .int .i64 i2, .int .i64 i3], y.val, .int .i64 E]) h9 (by decide)
  generalize b.put (some 73) (.tuple #[.agg #[.slice ao N cc, .int .i64 i1, .int .i64 i2, .int .i64 i3], y.val, .int .i64 E]) = b1 at *
  refine take26 (i := 7) rfl rfl rfl (by kernel_rfl) (by kernel_rfl) (by kernel_rfl) rfl (fun c a w => hP c _ _ a w) (fun w => ex_ext 0 (.agg #[.slice ao N cc, .int .i64 i1, .int .i64 i2, .int .i64 i3]) rfl g73 rfl) ?_
  have g80 := t_self (v := .agg #[.slice ao N cc, .int .i64 i1, .int .i64 i2, .int .i64 i3]) (show 80 < b1.tmps.size by omega)
  have z2 : 82 < (b1.put (some 80) (.agg #[.slice ao N cc, .int .i64 i1, .int .i64 i2, .int .i64 i3])).tmps.size := sz_put z1
  replace h4 := t_to (d := 80) (v := .agg #[.slice ao N cc, .int .i64 i1, .int .i64 i2, .int .i64 i3]) h4 (by decide)
  replace h9 := t_to (d := 80) (v := .agg #[.slice ao N cc, .int .i64 i1, .int .i64 i2, .int .i64 i3]) h9 (by decide)
  replace g73 := t_to (d := 80) (v := .agg #[.slice ao N cc, .int .i64 i1, .int .i64 i2, .int .i64 i3]) g73 (by decide)
  generalize b1.put (some 80) (.agg #[.slice ao N cc, .int .i64 i1, .int .i64 i2, .int .i64 i3]) = b2 at *
  refine take26 (i := 8) rfl rfl rfl (by kernel_rfl) (by kernel_rfl) (by kernel_rfl) rfl (fun c a w => hP c _ _ a w) (fun w => ex_ext 1 y.val rfl g73 rfl) ?_
  have g81 := t_self (v := y.val) (show 81 < b2.tmps.size by omega)
  have z3 : 82 < (b2.put (some 81) y.val).tmps.size := sz_put z2
  replace h4 := t_to (d := 81) (v := y.val) h4 (by decide)
  replace h9 := t_to (d := 81) (v := y.val) h9 (by decide)
  replace g73 := t_to (d := 81) (v := y.val) g73 (by decide)
  replace g80 := t_to (d := 81) (v := y.val) g80 (by decide)
  generalize b2.put (some 81) y.val = b3 at *
  refine take26 (i := 9) rfl rfl rfl (by kernel_rfl) (by kernel_rfl) (by kernel_rfl) rfl (fun c a w => hP c _ _ a w) (fun w => ex_ext 2 (.int .i64 E) rfl g73 rfl) ?_
  have g82 := t_self (v := .int .i64 E) (show 82 < b3.tmps.size by omega)
  have z4 : 82 < (b3.put (some 82) (.int .i64 E)).tmps.size := sz_put z3
  replace h4 := t_to (d := 82) (v := .int .i64 E) h4 (by decide)
  replace h9 := t_to (d := 82) (v := .int .i64 E) h9 (by decide)
  replace g80 := t_to (d := 82) (v := .int .i64 E) g80 (by decide)
  replace g81 := t_to (d := 82) (v := .int .i64 E) g81 (by decide)
  generalize b3.put (some 82) (.int .i64 E) = b4 at *
  clear g73 z1 z2 z3 h79 hs hP
  refine wpAnyH_ready (rs := [10]) (by kernel_rfl) (by simp) (AllReadyH.cons (o := q10 s) rfl (fun K hK => ?_) AllReadyH.nil)
  rw [if_pos (by rfl)]
  have f4 : b4.tmps[4]?.getD undef = .pointer (some ⟨r, 0, none⟩) := by rw [h4]; rfl
  have f80 : b4.tmps[80]?.getD undef = .agg #[.slice ao N cc, .int .i64 i1, .int .i64 i2, .int .i64 i3] := by rw [g80]; rfl
  have HX : (put4 w8 r (.slice ao N cc) (.int .i64 i1) (.int .i64 i2) (.int .i64 i3)).heap[rx]? = some (io x.op x.a x.b x.c x.n x.k x.i x.t) := ((put4_kept w8 r (.slice ao N cc) (.int .i64 i1) (.int .i64 i2) (.int .i64 i3)).block _ (lt_of hx) (by omega)).trans hx
  obtain ⟨p0, p1, p2, p3, pz⟩ := vfacts4 hr
  unfold q10
  go_simp
  refine hK.out _ _ trivial (fun _ => ?_)
  clear hK K p0 p1 p2 p3 pz f4 f80
  change wpAnyH _ _ _ _ _ _ _ _ (put4 w8 r (.slice ao N cc) (.int .i64 i1) (.int .i64 i2) (.int .i64 i3))
  generalize put4 w8 r (.slice ao N cc) (.int .i64 i1) (.int .i64 i2) (.int .i64 i3) = W1 at *
  refine wpAnyH_ready (rs := [11]) (by kernel_rfl) (by simp) (AllReadyH.cons (o := q11 s) rfl (fun K hK => ?_) AllReadyH.nil)
  rw [if_pos (by rfl)]
  have f9 : b4.tmps[9]?.getD undef = .pointer (some ⟨rx, 0, none⟩) := by rw [h9]; rfl
  have f81 : b4.tmps[81]?.getD undef = y.val := by rw [g81]; rfl
  obtain ⟨x0, x1, x2, x3, x4, x5, x6, x7, xz⟩ := vfacts8 HX
  unfold Ins.val at f81 g81
  unfold q11
  go_simp
  refine hK.out _ _ trivial (fun _ => ?_)
  clear hK K f9 f81 x0 x1 x2 x3 x4 x5 x6 x7 xz
  change wpAnyH _ _ _ _ _ _ _ _ (put8 W1 rx 0 y)
  refine wpAnyH_ready (rs := [12]) (by kernel_rfl) (by simp) (AllReadyH.cons (o := q12 s) rfl (fun K hK => ?_) AllReadyH.nil)
  rw [if_pos (by rfl)]
  have f82 : b4.tmps[82]?.getD undef = .int .i64 E := by rw [g82]; rfl
  clear z4 g82
  unfold q12
  go_simp
  refine hK.out _ _ trivial (fun _ => ?_)
  exact wpAnyH_done (by kernel_rfl) hQ _

set_option maxRecDepth 100000 in
theorem reg26 (s : String) (a : Act) (W : World) (r rx : Nat) (v0 v1 v2 v3 : Value) (x : Ins) (L : ByteArray) (m : Nat) (hm : m < L.size) (hs : 82 < a.tmps.size)
    (h4 : a.tmps[4]? = some (.pointer (some ⟨r, 0, none⟩))) (h9 : a.tmps[9]? = some (.pointer (some ⟨rx, 0, none⟩))) (h10 : a.tmps[10]? = some (.string L)) (h11 : a.tmps[11]? = some (.int .i64 m))
    (hr : W.heap[r]? = some (.cells #[v0, v1, v2, v3] 74 (0, 0))) (hx : W.heap[rx]? = some (io x.op x.a x.b x.c x.n x.k x.i x.t)) (hne : r ≠ rx) (Q : Exit → Act → World → Prop)
    (hP : ∀ c d v a w, Q (.panic c) (a.put d v) w → Q (.panic c) a w)
    (T : Ending → World → Prop) (hC : Calls Tryz.prog 84 #[.agg #[v0, v1, v2, v3], x.val, .int .u8 ((L[m]'hm).toNat : Int)] W.drew T)
    (hT : ∀ e w8, T e w8 → ∃ (ao : Option Addr) (N cc : Nat) (i1 i2 i3 : Int) (y : Ins) (E : Int), e = .returned (.tuple #[.agg #[.slice ao N cc, .int .i64 i1, .int .i64 i2, .int .i64 i3], y.val, .int .i64 E]) ∧ w8.heap[r]? = W.heap[r]? ∧ w8.heap[rx]? = W.heap[rx]? ∧
      Q .normal (fin26 a (.agg #[v0, v1, v2, v3]) x.val (.int .u8 ((L[m]'hm).toNat : Int)) (.tuple #[.agg #[.slice ao N cc, .int .i64 i1, .int .i64 i2, .int .i64 i3], y.val, .int .i64 E]) (.agg #[.slice ao N cc, .int .i64 i1, .int .i64 i2, .int .i64 i3]) y.val (.int .i64 E) L m) (put8 (put4 w8 r (.slice ao N cc) (.int .i64 i1) (.int .i64 i2) (.int .i64 i3)) rx 0 y)) :
    (Code.region 26 (ops26 s).toArray true).wp Tryz.prog Q a W := by
  refine wp_head_any 5 8 #[true, true, true, true, true, false, false, false, false, false, false, false, false] (by kernel_rfl) (by kernel_rfl) rfl rfl ?_
  refine head26 s a W.drew r rx v0 v1 v2 v3 x L m hm hs h4 h9 h10 h11 hr hx _ ?_
  intro b zb k4 k9 k74 k75 k78 eb
  refine wpAnyH_ready (rs := [5]) (by kernel_rfl) (by simp) (AllReadyH.cons (o := q5 s) rfl (fun K hK => ?_) AllReadyH.nil)
  rw [if_pos (by rfl)]
  have f74 : b.tmps[74]?.getD undef = .agg #[v0, v1, v2, v3] := by rw [k74]; rfl
  have f75 : b.tmps[75]?.getD undef = x.val := by rw [k75]; rfl
  have f78 : b.tmps[78]?.getD undef = .int .u8 ((L[m]'hm).toNat : Int) := by rw [k78]; rfl
  have Z := hid zb
  have Z4 := hid k4
  have Z9 := hid k9
  clear zb k4 k9 k74 k75 k78 h4 h9 h10 h11 hs
  have EB := hid eb
  clear eb
  unfold q5
  go_simp
  refine hC.mono ?_
  intro e w8 h8
  obtain ⟨ao, N, cc, i1, i2, i3, y, E, rfl, e1, e2, hq⟩ := hT e w8 h8
  dsimp only
  refine hK.out _ _ trivial (fun _ => ?_)
  clear hK K f74 f75 f78 hT h8 hC
  have eb := EB.out
  have zb := Z.out
  have k4 := Z4.out
  have k9 := Z9.out
  clear EB Z Z4 Z9
  change wpAnyH _ _ _ _ _ 7 #[true, true, true, true, true, true, false, false, false, false, false, false, false] (b.put (some 79) (.tuple #[.agg #[.slice ao N cc, .int .i64 i1, .int .i64 i2, .int .i64 i3], y.val, .int .i64 E])) w8
  subst eb
  exact tail26 s _ W w8 r rx v0 v1 v2 v3 ao N cc i1 i2 i3 E x y (sz_put zb) (t_to k4 (by decide)) (t_to k9 (by decide)) (t_self (by omega)) (e1.trans hr) (e2.trans hx) hne Q hP hq

end Go.Proofs.YtdnlfacfleemeaaGreat
