import Derived.Test.YtdnlfacfleemeaaK20
import Derived.StillTailTactics
import Derived.Test.YtdnlfacfleemeaaK24
namespace Go.Proofs.Ytdnlfacfleemeaa
open Go.RowKit Go.Lib

theorem st_skip {P : Program} {ops : Array Oper} {w : World} {Q : Act → Prop} {o : Oper} {rest : List Oper} {a : Act} (h : Region.wanted o (yielded ops a.tmps) = false) (k : wpStill P ops w Q rest (a.put o.dst undef)) : wpStill P ops w Q (o :: rest) a := by
  unfold wpStill
  rw [if_neg (by rw [h]; decide)]
  exact k

theorem st_val {P : Program} {ops : Array Oper} {w : World} {Q : Act → Prop} {o : Oper} {rest : List Oper} {a : Act} (v : Value) (h : Region.wanted o (yielded ops a.tmps) = true) (e : (execOp a.eval o).run P w = .ok (.value v) w) (k : wpStill P ops w Q rest (a.put o.dst v)) : wpStill P ops w Q (o :: rest) a := by
  unfold wpStill
  rw [if_pos h]
  unfold Oper.still
  rw [e, Oper.stillUpon_value]
  exact k

theorem exec_neq (F2 : Int) (hF2 : (F2 == 0) = false) (ρ : Operand → Value) (o : Oper) (t x : Nat) (ho : o.op = .binOp BinOp.neq 32 (.tmp x) (.const (.int .i64 0)) t) (hx : ρ (.tmp x) = .int .i64 F2) (hy : ρ (.const (.int .i64 0)) = .int .i64 0) (W : World) : (execOp ρ o).run Try.prog W = .ok (.value (.bool true)) W := by
  unfold execOp
  rw [ho]
  dsimp only
  rw [hx, hy]
  go_simp
  simpa using hF2


theorem ev_self {a : Act} {d : Nat} {v : Value} (h : d < a.tmps.size) : (a.put (some d) v).eval (.tmp d) = v := by simp [Act.put, Act.eval, h]
theorem sz_put {a : Act} {d : Option Nat} {v : Value} {n : Nat} (h : n < a.tmps.size) : n < (a.put d v).tmps.size := by
  cases d <;> simp [Act.put, h]

/-! The operations of the law's last statement. -/
def o0 (s : String) : Oper := { dst := some 122, op := Op.move (Operand.tmp 16), type := 32, pos := s, after := #[], guard := none }
def o1 (s : String) : Oper := { dst := some 123, op := Op.binOp BinOp.neq 32 (Operand.tmp 122) (Operand.const (Value.int IntKind.i64 0)) 32, type := 4, pos := s, after := #[{ on := 0, ground := Ground.data }], guard := none }
def o2 (s : String) : Oper := { dst := some 124, op := Op.move (Operand.tmp 123), type := 4, pos := s, after := #[{ on := 1, ground := Ground.data }], guard := none }
def o3 (s : String) : Oper := { dst := some 125, op := Op.move (Operand.tmp 10), type := 34, pos := s, after := #[{ on := 2, ground := Ground.guard }], guard := some (2, false) }
def o4 (s : String) : Oper := { dst := some 126, op := Op.move (Operand.tmp 17), type := 34, pos := s, after := #[{ on := 2, ground := Ground.guard }], guard := some (2, false) }
def o5 (s : String) : Oper := { dst := some 127, op := Op.call { callee := Callee.value (Operand.func 13), args := #[Operand.tmp 125, Operand.tmp 126], argTypes := #[34, 34] }, type := 4, pos := s, after := #[{ on := 3, ground := Ground.data }, { on := 4, ground := Ground.data }, { on := 2, ground := Ground.chain }, { on := 2, ground := Ground.guard }], guard := some (2, false) }
def o6 (s : String) : Oper := { dst := some 128, op := Op.load 24 (Operand.tmp 14), type := 24, pos := s, after := #[{ on := 2, ground := Ground.guard }], guard := some (2, false) }
def o7 (s : String) : Oper := { dst := some 129, op := Op.load 24 (Operand.tmp 4), type := 24, pos := s, after := #[{ on := 2, ground := Ground.guard }], guard := some (2, false) }
def o8 (s : String) : Oper := { dst := some 130, op := Op.call { callee := Callee.value (Operand.func 11), args := #[Operand.tmp 128, Operand.tmp 129], argTypes := #[24, 24] }, type := 4, pos := s, after := #[{ on := 6, ground := Ground.data }, { on := 7, ground := Ground.data }, { on := 5, ground := Ground.chain }, { on := 2, ground := Ground.guard }], guard := some (2, false) }
def o9 (s : String) : Oper := { dst := some 131, op := Op.binOp BinOp.eql 4 (Operand.tmp 127) (Operand.tmp 130) 4, type := 4, pos := s, after := #[{ on := 5, ground := Ground.data }, { on := 8, ground := Ground.data }, { on := 2, ground := Ground.guard }], guard := some (2, false) }
def o10 (s : String) : Oper := { dst := some 132, op := Op.pick (Operand.tmp 124) (Operand.const (Value.bool true)) (Operand.tmp 131), type := 4, pos := s, after := #[{ on := 2, ground := Ground.data }, { on := 9, ground := Ground.data }], guard := none }
def o11 (s : String) : Oper := { dst := some 133, op := Op.move (Operand.tmp 132), type := 4, pos := s, after := #[{ on := 10, ground := Ground.data }, { on := 8, ground := Ground.chain }], guard := none }
def o12 (s : String) : Oper := { dst := some 134, op := Op.call { callee := Callee.value (Operand.func 9), args := #[], argTypes := #[] }, type := 4, pos := s, after := #[{ on := 11, ground := Ground.chain }, { on := 11, ground := Ground.guard }], guard := some (11, true) }
def o13 (s : String) : Oper := { dst := some 135, op := Op.pick (Operand.tmp 133) (Operand.tmp 134) (Operand.const (Value.bool false)), type := 4, pos := s, after := #[{ on := 11, ground := Ground.data }, { on := 12, ground := Ground.data }], guard := none }
def o14 (s : String) : Oper := { dst := some 8, op := Op.assign (Operand.tmp 135), type := 4, pos := s, after := #[{ on := 13, ground := Ground.data }, { on := 12, ground := Ground.chain }, { on := 0, ground := Ground.phase }, { on := 1, ground := Ground.phase }, { on := 2, ground := Ground.phase }, { on := 3, ground := Ground.phase }, { on := 4, ground := Ground.phase }, { on := 5, ground := Ground.phase }, { on := 6, ground := Ground.phase }, { on := 7, ground := Ground.phase }, { on := 8, ground := Ground.phase }, { on := 9, ground := Ground.phase }, { on := 10, ground := Ground.phase }, { on := 11, ground := Ground.phase }, { on := 12, ground := Ground.phase }, { on := 13, ground := Ground.phase }], guard := none }
def ops20 (s : String) : List Oper := [o0 s, o1 s, o2 s, o3 s, o4 s, o5 s, o6 s, o7 s, o8 s, o9 s, o10 s, o11 s, o12 s, o13 s, o14 s]

theorem y_of {s : String} {a : Act} {b : Bool} (h : a.tmps[124]? = some (.bool b)) : yielded (ops20 s).toArray a.tmps 2 = some b := by
  unfold yielded
  rw [show ((ops20 s).toArray[2]?).bind (·.dst) = some 124 from rfl]
  simp [h]

theorem t_self {a : Act} {d : Nat} {v : Value} (h : d < a.tmps.size) : (a.put (some d) v).tmps[d]? = some v := by simp [Act.put, h]

theorem t_put {a : Act} {d : Nat} {v x : Value} (hd : 124 ≠ d) (h : a.tmps[124]? = some x) : (a.put (some d) v).tmps[124]? = some x := by
  simp only [Act.put]
  rw [Array.getElem?_setIfInBounds_ne (by omega)]
  exact h

theorem no20 {s : String} {a : Act} {o : Oper} (h : a.tmps[124]? = some (.bool true)) (ho : o.guard = some (2, false)) : Region.wanted o (yielded (ops20 s).toArray a.tmps) = false := by
  unfold Region.wanted
  rw [ho]
  simp [y_of h]

theorem pick20 {a : Act} {o : Oper} {W : World} {t : Nat} (h : a.tmps[124]? = some (.bool true)) (ho : o.op = .pick (.tmp 124) (.const (.bool true)) (.tmp t) := by rfl) : (execOp a.eval o).run Try.prog W = .ok (.value (.bool true)) W := by
  have e : a.eval (.tmp 124) = .bool true := by simp [Act.eval, h]
  unfold execOp
  rw [ho]
  dsimp only
  rw [e]
  rfl

theorem mov20 {a : Act} {o : Oper} {W : World} (h : 132 < a.tmps.size) (ho : o.op = .move (.tmp 132) := by rfl) : (execOp (a.put (some 132) (.bool true)).eval o).run Try.prog W = .ok (.value (.bool true)) W := by
  have e : (a.put (some 132) (.bool true)).eval (.tmp 132) = .bool true := ev_self h
  unfold execOp
  rw [ho]
  dsimp only
  rw [e]
  rfl

theorem sk20 {P : Program} {ops : Array Oper} {w : World} {Q : Act → Prop} {o : Oper} {rest : List Oper} {a : Act} (d : Nat) (hd : o.dst = some d) (h : Region.wanted o (yielded ops a.tmps) = false) (k : wpStill P ops w Q rest (a.put (some d) undef)) : wpStill P ops w Q (o :: rest) a := st_skip h (by rw [hd]; exact k)
theorem vl20 {P : Program} {ops : Array Oper} {w : World} {Q : Act → Prop} {o : Oper} {rest : List Oper} {a : Act} (d : Nat) (v : Value) (hd : o.dst = some d) (hg : o.guard = none) (e : (execOp a.eval o).run P w = .ok (.value v) w) (k : wpStill P ops w Q rest (a.put (some d) v)) : wpStill P ops w Q (o :: rest) a := st_val v (by unfold Region.wanted; rw [hg]) e (by rw [hd]; exact k)

theorem mv20 {a : Act} {o : Oper} {W : World} {v : Value} (t : Nat) (ho : o.op = .move (.tmp t)) (e : a.eval (.tmp t) = v) : (execOp a.eval o).run Try.prog W = .ok (.value v) W := by
  unfold execOp
  rw [ho]
  dsimp only
  rw [e]
  rfl

/-- The eleven that are struck out. -/
def putL (L : List Oper) (a : Act) : Act := L.foldl (fun a o => a.put o.dst undef) a
def L11 (s : String) : List Oper := [o3 s, o4 s, o5 s, o6 s, o7 s, o8 s, o9 s]

theorem mid20 (s : String) (W : World) (Q : Act → Prop) (rest : List Oper) : ∀ (L : List Oper) (a : Act), (∀ o ∈ L, o.guard = some (2, false) ∧ ∃ d, o.dst = some d ∧ 124 ≠ d) → a.tmps[124]? = some (.bool true) → wpStill Try.prog (ops20 s).toArray W Q rest (putL L a) → wpStill Try.prog (ops20 s).toArray W Q (L ++ rest) a
  | [], _, _, _, hk => hk
  | o :: L, a, h, t, hk => by
    obtain ⟨hg, d, hd, hn⟩ := h o List.mem_cons_self
    refine sk20 d hd (no20 t hg) ?_
    refine mid20 s W Q rest L _ (fun o' ho' => h o' (List.mem_cons_of_mem _ ho')) (t_put hn t) ?_
    have e : putL (o :: L) a = putL L (a.put (some d) undef) := by unfold putL; rw [List.foldl_cons, hd]
    rw [← e]
    exact hk

theorem putL_at : ∀ (L : List Oper) (a : Act), (∀ o ∈ L, o.guard = some (2, false) ∧ ∃ d, o.dst = some d ∧ 124 ≠ d) → a.tmps[124]? = some (.bool true) → (putL L a).tmps[124]? = some (.bool true)
  | [], _, _, t => t
  | o :: L, a, h, t => by
    obtain ⟨_, d, hd, hn⟩ := h o List.mem_cons_self
    have e : putL (o :: L) a = putL L (a.put (some d) undef) := by unfold putL; rw [List.foldl_cons, hd]
    rw [e]
    exact putL_at L _ (fun o' ho' => h o' (List.mem_cons_of_mem _ ho')) (t_put hn t)

theorem putL_sz (n : Nat) : ∀ (L : List Oper) (a : Act), n < a.tmps.size → n < (putL L a).tmps.size
  | [], _, h => h
  | o :: L, a, h => by
    have e : putL (o :: L) a = putL L (a.put o.dst undef) := rfl
    rw [e]
    exact putL_sz n L _ (sz_put h)

theorem L11_ok (s : String) : ∀ o ∈ L11 s, o.guard = some (2, false) ∧ ∃ d, o.dst = some d ∧ 124 ≠ d := by
  intro o ho
  simp only [L11, List.mem_cons, List.not_mem_nil, or_false] at ho
  rcases ho with rfl | rfl | rfl | rfl | rfl | rfl | rfl
  · exact ⟨rfl, 125, rfl, by decide⟩
  · exact ⟨rfl, 126, rfl, by decide⟩
  · exact ⟨rfl, 127, rfl, by decide⟩
  · exact ⟨rfl, 128, rfl, by decide⟩
  · exact ⟨rfl, 129, rfl, by decide⟩
  · exact ⟨rfl, 130, rfl, by decide⟩
  · exact ⟨rfl, 131, rfl, by decide⟩

def a3 (a : Act) (F2 : Int) : Act := ((a.put (some 122) (.int .i64 F2)).put (some 123) (.bool true)).put (some 124) (.bool true)
def a16 (s : String) (a : Act) (F2 : Int) : Act := ((putL (L11 s) (a3 a F2)).put (some 132) (.bool true)).put (some 133) (.bool true)

theorem pre20 (s : String) (a : Act) (W : World) (F2 : Int) (hF2 : (F2 == 0) = false) (hs : 135 < a.tmps.size) (h15 : a.eval (.tmp 16) = .int .i64 F2) (Q : Act → Prop) (rest : List Oper) (hk : wpStill Try.prog (ops20 s).toArray W Q rest (a3 a F2)) : wpStill Try.prog (ops20 s).toArray W Q (o0 s :: o1 s :: o2 s :: rest) a := by
  refine vl20 122 (.int .i64 F2) rfl rfl (mv20 16 rfl h15) ?_
  have h122 : (a.put (some 122) (.int .i64 F2)).eval (.tmp 122) = .int .i64 F2 := ev_self (by omega)
  have h123 : 123 < (a.put (some 122) (.int .i64 F2)).tmps.size := sz_put (by omega)
  unfold a3 at hk
  generalize a.put (some 122) (.int .i64 F2) = b at *
  refine vl20 123 (.bool true) rfl rfl (exec_neq F2 hF2 _ _ _ 122 rfl h122 rfl _) ?_
  have h124 : (b.put (some 123) (.bool true)).eval (.tmp 123) = .bool true := ev_self h123
  generalize b.put (some 123) (.bool true) = c at *
  exact vl20 124 (.bool true) rfl rfl (mv20 123 rfl h124) hk

theorem post20 (s : String) (b : Act) (W : World) (Q : Act → Prop) (t : b.tmps[124]? = some (.bool true)) (hz : 132 < b.tmps.size) (hQ : Q ((b.put (some 132) (.bool true)).put (some 133) (.bool true))) : wpStill Try.prog (ops20 s).toArray W Q [o10 s, o11 s] b := by
  refine vl20 132 (.bool true) rfl rfl (pick20 t rfl) ?_
  have h1 : (b.put (some 132) (.bool true)).eval (.tmp 132) = .bool true := ev_self hz
  generalize b.put (some 132) (.bool true) = c at *
  exact vl20 133 (.bool true) rfl rfl (mv20 132 rfl h1) (wpStill_nil hQ)

theorem take20 (s : String) : (ops20 s).take 12 = o0 s :: o1 s :: o2 s :: (L11 s ++ [o10 s, o11 s]) := rfl

theorem head20 (s : String) (a : Act) (W : World) (F2 : Int) (hF2 : (F2 == 0) = false) (hs : 135 < a.tmps.size) (h15 : a.eval (.tmp 16) = .int .i64 F2) (Q : Act → Prop) (hQ : Q (a16 s a F2)) : wpStill Try.prog (ops20 s).toArray W Q ((ops20 s).take 12) a := by
  have h124 : 124 < ((a.put (some 122) (.int .i64 F2)).put (some 123) (.bool true)).tmps.size := sz_put (sz_put (by omega))
  have t : (a3 a F2).tmps[124]? = some (.bool true) := t_self h124
  have hz : 132 < (a3 a F2).tmps.size := sz_put (sz_put (sz_put (by omega)))
  rw [take20]
  refine pre20 s a W F2 hF2 hs h15 Q _ ?_
  unfold a16 at hQ
  generalize a3 a F2 = b at *
  refine mid20 s W Q _ (L11 s) b (L11_ok s) t ?_
  have t2 := putL_at _ _ (L11_ok s) t
  have z2 := putL_sz _ (L11 s) _ hz
  generalize putL (L11 s) b = c at *
  exact post20 s c W Q t2 z2 hQ

theorem put_some (a : Act) (d : Nat) (v : Value) : a.put (some d) v = { tmps := a.tmps.setIfInBounds d v, defers := a.defers } := rfl


theorem reg20 (s : String) (a : Act) (W : World) (F2 : Int) (hF2 : (F2 == 0) = false) (hs : 135 < a.tmps.size) (h15 : a.eval (.tmp 16) = .int .i64 F2) (Q : Exit → Act → World → Prop)
    (hQ : ∀ w', Below W.heap.size W w' → Q .normal ((((a16 s a F2).put (some 134) (.bool true)).put (some 135) (.bool true)).put (some 8) (.bool true)) w') : (Code.region 23 (ops20 s).toArray true).wp Try.prog Q a W := by
  refine wp_region_still_tail 12 (by kernel_rfl) (by kernel_rfl) ?_
  refine head20 s a _ F2 hF2 hs h15 _ ?_
  have z : 133 < ((putL (L11 s) (a3 a F2)).put (some 132) (.bool true)).tmps.size := sz_put (putL_sz _ _ _ (sz_put (sz_put (sz_put (by omega)))))
  have z2 : 135 < (a16 s a F2).tmps.size := sz_put (sz_put (putL_sz _ _ _ (sz_put (sz_put (sz_put (by omega))))))
  have t : (a16 s a F2).tmps[133]? = some (.bool true) := t_self z
  generalize a16 s a F2 = b at t z2 hQ ⊢
  show wpList Try.prog (ops20 s).toArray Q [o12 s, o13 s, o14 s] b W.drew
  have e1 : b.eval (.tmp 133) = .bool true := by simp [Act.eval, t]
  unfold wpList
  rw [if_pos (by unfold Region.wanted yielded; simp [ops20, o12, o11, t])]
  left
  generalize hK : wpList Try.prog (ops20 s).toArray Q [o13 s, o14 s] = K
  unfold o12
  go_simp
  refine (known_any W.drew).mono ?_
  rintro e w8 ⟨rfl, hb8⟩
  have hb : Below W.heap.size W w8 := ⟨hb8.os, hb8.tape, hb8.output, hb8.size, hb8.block⟩
  have hQ := hQ w8 hb
  clear hb8 hb
  have e2 : (b.put (some 134) (.bool true)).eval (.tmp 134) = .bool true := ev_self (by omega)
  have e3 : (b.put (some 134) (.bool true)).eval (.tmp 133) = .bool true := (Act.eval_put (fun d hd => by injection hd with hd; subst hd; intro h; injection h with h; exact absurd h (by decide))).trans e1
  have e4 : ((b.put (some 134) (.bool true)).put (some 135) (.bool true)).eval (.tmp 135) = .bool true := ev_self (sz_put (by omega))
  subst hK
  dsimp only
  rw [← put_some]
  unfold wpList
  rw [if_pos (by rfl)]
  left
  generalize hK : wpList Try.prog (ops20 s).toArray Q [o14 s] = K
  generalize b.put (some 134) (.bool true) = c at *
  have e2' : c.tmps[134]?.getD undef = .bool true := by simpa [Act.eval] using e2
  have e3' : c.tmps[133]?.getD undef = .bool true := by simpa [Act.eval] using e3
  clear e2 e3
  unfold o13
  go_simp
  subst hK
  rw [← put_some]
  unfold wpList
  rw [if_pos (by rfl)]
  left
  generalize c.put (some 135) (.bool true) = d at *
  have e4' : d.tmps[135]?.getD undef = .bool true := by simpa [Act.eval] using e4
  clear e4
  unfold o14
  go_simp
  rw [← put_some]
  unfold wpList
  exact hQ

theorem put_def (a : Act) (d : Option Nat) (v : Value) : (a.put d v).defers = a.defers := by cases d <;> rfl

theorem putL_def : ∀ (L : List Oper) (a : Act), (putL L a).defers = a.defers
  | [], _ => rfl
  | o :: L, a => by
    have e : putL (o :: L) a = putL L (a.put o.dst undef) := rfl
    rw [e, putL_def L, put_def]

theorem reg23 (s : String) (a : Act) (W : World) (F2 : Int) (hF2 : (F2 == 0) = false) (hs : 135 < a.tmps.size) (h15 : a.eval (.tmp 16) = .int .i64 F2) (Q : Exit → Act → World → Prop)
    (hQ : ∀ b w', b.defers = a.defers → b.tmps.getD 8 undef = .bool true → Below W.heap.size W w' → Q .normal b w') : (Code.region 23 (ops20 s).toArray true).wp Try.prog Q a W := by
  refine reg20 s a W F2 hF2 hs h15 Q (fun w' hb => hQ _ w' ?_ ?_ hb)
  · rw [put_def, put_def, put_def]
    unfold a16
    rw [put_def, put_def, putL_def]
    unfold a3
    rw [put_def, put_def, put_def]
  · have z : 8 < (((a16 s a F2).put (some 134) (.bool true)).put (some 135) (.bool true)).tmps.size := sz_put (sz_put (sz_put (sz_put (putL_sz _ _ _ (sz_put (sz_put (sz_put (by omega))))))))
    generalize ((a16 s a F2).put (some 134) (.bool true)).put (some 135) (.bool true) = c at *
    have := ev_self (v := .bool true) z
    simpa [Act.eval] using this

end Go.Proofs.Ytdnlfacfleemeaa

namespace Go.Proofs.Ytdnlfacfleemeaa
open Go.RowKit Go.Lib

set_option maxRecDepth 100000 in
set_option maxHeartbeats 32000000 in
theorem back_e (f : Int) (S : Value) (ys : List Tx2) (x : Tx2) (i fi : Int) (w : World) (h : BatR w S ys) (hx : Tx2Ok w x) (hs1 : Sma (ys.map Tx2.t)) (hs2 : Sma [x.t]) (hE : batChk f (ys.map Tx2.t) = 0) (l : List Int) (hR : batE f (ys.map Tx2.t) = .ok l) (E1 : Int) (hR1 : batE fi (ys.map Tx2.t) = .error E1) :
    Calls Try.prog 3 #[.agg #[.int .i64 f, S], txv x.t x.S1 x.S2, .int .i64 i, .int .i64 fi] w fun e w' => e = .returned (.bool true) ∧ Below w.heap.size w w' := by
  have H0 := hid (bx_start w f S x)
  have HB := hid h
  have HTS := hid h.ts
  have HX := hid hx
  have HSA := hid hs1
  have HSX := hid hs2
  have ho : ∀ t ∈ ys.map Tx2.t, TxOk t := by
    intro t ht
    obtain ⟨y, hy, rfl⟩ := List.mem_map.1 ht
    exact (h.2 y hy).2.2
  have HO := hid ho
  have hl3 : ys.length ≤ 300 := by have := hs1.1; rwa [List.length_map] at this
  have HL1 := hid (fun W (hb : Below w.heap.size w W) => long_any 0 f S (ys.map Tx2.t) W (HTS.out.below hb))
  have HL2 := hid (fun W (hb : Below w.heap.size w W) => long_any 0 0 _ [x.t] _ (one_ts HX.out hb))
  unfold LgP at HL1 HL2
  rw [decide_eq_true hs1] at HL1
  rw [decide_eq_true hs2] at HL2
  have HC := hid (fun W (hb : Below w.heap.size w W) => bcheck_any 0 f S (ys.map Tx2.t) W (HTS.out.below hb) (sma_L HSA.out) (by rw [List.length_map]; omega))
  have HE := hid (fun W (hb : Below w.heap.size w W) => bencode_any 0 f S (ys.map Tx2.t) W (HTS.out.below hb) (sma_L HSA.out) (by rw [List.length_map]; omega) HO.out)
  have HTW := hid (fun W (hb : Below w.heap.size w W) => twin_any f S ys W (HB.out.below hb) HSA.out)
  obtain ⟨ao, cap, rfl, -⟩ := h.1.shape
  obtain ⟨ts, hts⟩ : ∃ ts, ts = ys.map Tx2.t := ⟨_, rfl⟩
  have hly : ys.length = ts.length := by rw [hts, List.length_map]
  rw [← hts] at HSA HO HTS HC HE HTW hE hR hR1
  rw [hly] at HTS HL1 HC HE HTW H0 hl3 ⊢
  clear h hx hs1 hs2 ho HB hts hly
  rw [hE] at HC
  have HOK := hid hR
  obtain ⟨b1, b2, b3⟩ := batE_ok hR
  have hdec := dec_batB f ts b1 HO.out b2
  rw [← b3] at hdec b2
  obtain ⟨_, _, lo, lh, _, _⟩ := batChk_good f ts hE
  have hoct : Oct l := by
    rw [b3]
    exact batB_oct f ts b1 HO.out
  rw [hR] at HE
  unfold BEnc at HE
  dsimp only at HE
  have HD := hid (fun v W hW => bdecode_any v l W hW hoct)
  rw [hdec] at HD
  unfold DB at HD
  dsimp only at HD
  have HSm := hid (fun W S1 S2 h1 h2 => bsame_any 0 0 f S1 ts f S2 ts W h1 h2 (sma_L HSA.out) (by omega))
  rw [decide_eq_true (And.intro rfl rfl)] at HSm
  have hl65 : decide ((65536 : Int) < (l.length : Int)) = false := by simp; omega
  have HLL := hid b2
  have htb : -(ts.length : Int) < i.tmod ts.length ∧ i.tmod ts.length < ts.length := by
    have h1 : (i.tmod ts.length).natAbs < ts.length := by
      rw [Int.natAbs_tmod]
      exact Nat.mod_lt _ (by omega)
    omega
  have HTB := hid htb
  have hpos' : (0 : Int) < (ts.length : Int) := by omega
  clear hR hE hdec b1 b3 hoct htb
  obtain ⟨t, a1, c1, a2, c2⟩ := x
  dsimp only [Tx2.S1, Tx2.S2] at *
  unfold TwB at HTW
  go_enter Try.func3, Try.ntmps3
  go_upto_region 13 with (first
    | (go_at_call 6
       first
       | ((with_reducible show Calls _ _ _ (World.alloc (World.alloc w _) _) _)
          refine (HL1.out _ H0.out.hb).mono ?_
          rintro e w1 ⟨rfl, hb1⟩
          have H1 := hid (H0.out.below hb1)
          obtain ⟨q0, q1, q2, q3, q4, q5, -⟩ := vfacts6 H1.out.r5
          clear hb1)
       | (refine (HL2.out _ H1.out.hb).mono ?_
          rintro e w2 ⟨rfl, hb2⟩
          have H2 := hid (H1.out.below (below_on (below1 w1 _) hb2))
          obtain ⟨p0, p1, -⟩ := vfacts2 H2.out.r4
          clear hb2))
    | (go_at_call 7
       refine (HC.out _ H2.out.hb).mono ?_
       rintro e w3 ⟨rfl, hb3⟩
       have H3 := hid (H2.out.below hb3)
       obtain ⟨p0, p1, -⟩ := vfacts2 H3.out.r4
       clear hb3)
    | (go_at_call 8
       refine (HE.out _ H3.out.hb).mono ?_
       rintro e w4 ⟨hb4, g4, rfl, ho4, hg4⟩
       have H4 := hid (And.intro (H3.out.below hb4) ho4)
       clear hb4 ho4 hg4)
    | (go_at_call 10
       refine (HD.out _ _ (own_sl H4.out.2 (by omega))).mono ?_
       rintro e w5 ⟨hb5, Sc, rfl, hts5⟩
       have H5 := hid (And.intro (H4.out.1.below hb5) (And.intro (blk_of hb5 H4.out.2 (lt_of H4.out.2)) (hts5.mono (Nat.zero_le _))))
       obtain ⟨ao5, cap5, rfl⟩ := hts5.form
       obtain ⟨p0, p1, -⟩ := vfacts2 H5.out.1.r4
       have k5 := lt_of H5.out.1.r4
       clear hb5 hts5)
    | (go_at_call 11
       refine (HSm.out _ _ _ (HTS.out.below (below_on H5.out.1.hb (below1 w5 _))) (H5.out.2.2.below (below1 w5 _))).mono ?_
       rintro e w6 ⟨rfl, hb6⟩
       have hb6' := below_on (below1 w5 _) hb6
       have H6 := hid (And.intro (H5.out.1.below hb6') (blk_of hb6' H5.out.2.1 (lt_of H5.out.2.1)))
       obtain ⟨p0, p1, -⟩ := vfacts2 H6.out.1.r4
       clear hb6 hb6')
    | (go_at_call 12
       refine (HTW.out _ H6.out.1.hb).mono ?_
       rintro e w7 ⟨zs, tb, c, cur, rfl, hz7, hc7, hB7, hk7, hat7, hzl7, hb7⟩
       have H8 := hid (bk4_start H6.out hz7 hc7 hB7 hk7 hat7 hzl7 hb7 (bo fi (.slice (some ⟨tb, 0, none⟩) ts.length c)))
       clear hz7 hc7 hB7 hk7 hat7 hzl7 hb7))
  clear H1 H2 H3 H4 H5 H6 HC HE HD HSm HTW HL1 HL2 q0 q1 q2 q3 q4 q5 p0 p1 H0 k5
  go_upto_region 14 with fail
  obtain ⟨q, hq⟩ : ∃ q, q = w7.heap.size := ⟨_, rfl⟩
  obtain ⟨B, hBq⟩ : ∃ B, B = w6.heap.size := ⟨_, rfl⟩
  rw [← hq, ← hBq] at H8
  rw [← hq]
  refine cutG (fun W => Bk4 w W f (.slice ao ts.length cap) ⟨t, a1, c1, a2, c2⟩ g4 l B tb c zs ts q (bo fi (.slice (some ⟨tb, 0, none⟩) ts.length c))) H8.out ?_
  intro W9 H9
  have H9 := hid H9
  clear H8 hq hBq
  obtain ⟨r0, r1, rz⟩ := vfacts2 H9.out.rq
  have HE2 := hid (fun W (h : TsAt 0 W (.slice (some ⟨tb, 0, none⟩) ts.length c) ts) => bencode_any 0 fi _ ts W h (sma_L HSA.out) (by omega) HO.out)
  have hE1 : E1 ≠ 0 := batE_err _ _ _ hR1
  have he1 : (E1 == 0) = false := by simpa using hE1
  rw [hR1] at HE2
  unfold BEnc at HE2
  dsimp only at HE2
  clear hR1 hE1
  go_upto_region 15 with (first
    | (go_at_call 8
       refine (HE2.out _ H9.out.tn.ts).mono ?_
       rintro e w10 ⟨hb10, rfl⟩
       have H10 := hid (H9.out.below hb10)
       obtain ⟨p0, p1, -⟩ := vfacts2 H10.out.bx.r4
       clear hb10))
  go_quiet (fail)
  obtain ⟨W10, hW10⟩ : ∃ W10, W10 = w10.drewN nq := ⟨_, rfl⟩
  rw [← hW10]
  have H10 := hid (show Bk4 w W10 f (.slice ao ts.length cap) ⟨t, a1, c1, a2, c2⟩ g4 l B tb c zs ts q (bo fi (.slice (some ⟨tb, 0, none⟩) ts.length c)) by rw [hW10]; exact H10.out.below (Below.drewN0 _ _))
  clear hW10 p0 p1
  clear r0 r1 rz
  have HF := hid (H10.out.first (.int .i64 f))
  obtain ⟨p0, p1, -⟩ := vfacts2 H10.out.bx.r4
  obtain ⟨r0, r1, rz⟩ := vfacts2 H10.out.rq
  have hqq := H10.out.lq
  go_upto_region 18 with fail
  refine cutG (fun W => Bk4 w W f (.slice ao ts.length cap) ⟨t, a1, c1, a2, c2⟩ g4 l B tb c zs ts q (bo f (.slice (some ⟨tb, 0, none⟩) ts.length c))) HF.out ?_
  intro W11 H11
  have H11 := hid H11
  clear HF H10 p0 p1 r0 r1 rz hqq
  obtain ⟨p0, p1, -⟩ := vfacts2 H11.out.bx.r4
  by_cases hneg : i.tmod ts.length < 0
  · as_aux_lemma =>
      obtain ⟨cN, hwr, hcN⟩ : ∃ c : Nat, wrap64 (i.tmod ts.length + ts.length) = c ∧ c < ts.length := by
        have := HTB.out
        refine ⟨(i.tmod ts.length + ts.length).toNat, ?_, by omega⟩
        unfold wrap64
        omega
      have HWR := hid hwr
      clear hwr
      go_upto_region 21 with fail
      rw [HWR.out]
      obtain ⟨u, hu⟩ : ∃ u, ts[cN]? = some u := ⟨_, List.getElem?_eq_getElem hcN⟩
      obtain ⟨z, hz, _, hcz⟩ := H11.out.tn.get hu
      obtain ⟨d0, d1, d2, d3, d4, d5⟩ := hcz
      obtain ⟨r0, r1, -⟩ := vfacts2 H11.out.rq
      obtain ⟨s0, s1, s2, s3, s4, s5, -⟩ := vfacts6 H11.out.bx.r5
      have vz : ∀ o, W11.frozen? ⟨tb, o, none⟩ = false := fun o => by obtain ⟨cs, hcs⟩ := H11.out.tn.bk; simp [World.frozen?, hcs]
      have hcN' : (cN : Int) < (ts.length : Int) := by omega
      have hccN : (ts.length : Int) ≤ (c : Int) := by have := H11.out.tn.hc; omega
      clear hu hz
      go_upto_region 22 with fail
      refine cutG (fun W => Bq w W f (.slice ao ts.length cap) ⟨t, a1, c1, a2, c2⟩ g4 l q (.slice (some ⟨tb, 0, none⟩) ts.length c) (ts.set cN t)) (H11.out.set HX.out hcN) ?_
      intro W12 H12
      have H12 := hid H12
      have HE3 := hid (fun W (h : TsAt 0 W (.slice (some ⟨tb, 0, none⟩) ts.length c) (ts.set cN t)) => bencode_any 0 f _ (ts.set cN t) W h (set_all (sma_L HSA.out) (sma_L HSX.out t (by simp))) (by rw [List.length_set]; omega) (set_all HO.out HX.out.2.2))
      clear d0 d1 d2 d3 d4 d5 r0 r1 s0 s1 s2 s3 s4 s5 vz
      obtain ⟨p0, p1, -⟩ := vfacts2 H12.out.bx.r4
      obtain ⟨r0, r1, -⟩ := vfacts2 H12.out.rq
      cases hR2 : batE f (ts.set cN t) with
      | error E2 =>
        have hE2 : E2 ≠ 0 := batE_err _ _ _ hR2
        have he2 : (E2 == 0) = false := by simpa using hE2
        rw [hR2] at HE3
        unfold BEnc at HE3
        dsimp only at HE3
        clear hR2 hE2
        go_upto_region 23 with (first
          | (go_at_call 8
             refine (HE3.out _ H12.out.st).mono ?_
             rintro e w13 ⟨hb13, rfl⟩
             have H13 := hid (below_on H12.out.bx.hb hb13)
             clear hb13))
        refine reg23 "outright.go:41" _ _ E2 he2 (by simp) rfl _ (fun b9 w20 hdf hv9 hb20 => ?_)
        rename_i hK9
        refine hK9 b9 w20 (wp_ret ?_)
        exact bodyPost_ret (by rw [results_tmp rfl, hv9]) hdf ⟨rfl, below_on H13.out hb20⟩
      | ok n =>
        have hinj := batE_inj HOK.out hR2 HO.out (set_all HO.out HX.out.2.2)
        have hln := (batE_ok hR2).2.1
        rw [← (batE_ok hR2).2.2] at hln
        rw [hR2] at HE3
        unfold BEnc at HE3
        dsimp only at HE3
        have HSm2 := hid (fun W S1 S2 h1 h2 => bsame_any 0 0 f S1 (ts.set cN t) f S2 ts W h1 h2 (set_all (sma_L HSA.out) (sma_L HSX.out t (by simp))) (by rw [List.length_set]; omega))
        have HBY := hid (fun g W ha hb => bytes_any (.slice (some ⟨g4, 0, none⟩) l.length l.length) (.slice (some ⟨g, 0, none⟩) n.length n.length) l n W ha hb (by omega))
        obtain ⟨D, hD⟩ : ∃ D, D = decide (l = n) := ⟨_, rfl⟩
        have hD2 : decide (f = f ∧ ts.set cN t = ts) = D := by
          rw [hD]
          by_cases e : l = n
          · rw [decide_eq_true e, decide_eq_true ⟨rfl, (hinj.1 e).2.symm⟩]
          · rw [decide_eq_false e, decide_eq_false (fun h => e (hinj.2 ⟨rfl, h.2.symm⟩))]
        rw [hD2] at HSm2
        rw [← hD] at HBY
        clear hR2 hinj hD hD2
        cases D
        all_goals (
          go_upto_region 23 with (first
            | (go_at_call 8
               refine (HE3.out _ H12.out.st).mono ?_
               rintro e w13 ⟨hb13, g13, rfl, ho13, hg13⟩
               have H13 := hid (And.intro (H12.out.bx.below hb13) (And.intro (blk_of hb13 H12.out.ow (lt_of H12.out.ow)) (And.intro ho13 (And.intro (H12.out.st.below hb13) (blk_of hb13 H12.out.rq (lt_of H12.out.rq))))))
               obtain ⟨p0, p1, -⟩ := vfacts2 H13.out.1.r4
               obtain ⟨r0, r1, -⟩ := vfacts2 H13.out.2.2.2.2
               clear hb13 ho13 hg13))
          have HSB := hid (And.intro (own_sl (w := w13.drew) H13.out.2.1 (by omega)) (own_sl (w := w13.drew) H13.out.2.2.1 (by omega)))
          go_region_held (fun wx => wx.cell? ⟨q, 0, none⟩ = some (.int .i64 f) ∧ wx.cell? ⟨q, 1, none⟩ = some (.slice (some ⟨tb, 0, none⟩) ts.length c) ∧ wx.cell? ⟨w.heap.size, 0, none⟩ = some (.int .i64 f) ∧ wx.cell? ⟨w.heap.size, 1, none⟩ = some (.slice ao ts.length cap)) (go_keep) (first
            | (go_at_call 13
               refine (HBY.out g13 w13.drew HSB.out.1 HSB.out.2).mono ?_
               rintro e w14 ⟨hd14, rfl⟩
               have hb14 := below_on (below_drew w13) hd14.below
               have H14 := hid (And.intro (H13.out.1.below hb14) (And.intro (H13.out.2.2.2.1.below hb14) (blk_of hb14 H13.out.2.2.2.2 (lt_of H13.out.2.2.2.2))))
               obtain ⟨p0, p1, -⟩ := vfacts2 H14.out.1.r4
               obtain ⟨r0, r1, -⟩ := vfacts2 H14.out.2.2
               clear hd14 hb14)
            | (go_at_call 11
               refine (HSm2.out w14 _ _ H14.out.2.1 (HTS.out.below H14.out.1.hb)).mono ?_
               rintro e w15 ⟨rfl, hb15⟩
               have H15 := hid (And.intro (H14.out.1.below hb15) (blk_of hb15 H14.out.2.2 (lt_of H14.out.2.2)))
               obtain ⟨p0, p1, -⟩ := vfacts2 H15.out.1.r4
               obtain ⟨r0, r1, -⟩ := vfacts2 H15.out.2
               clear hb15)
            | (go_at_call 9
               refine (known_any w15).mono ?_
               rintro e w20 ⟨rfl, hb20⟩
               have H20 := hid (And.intro (H15.out.1.below hb20) (blk_of hb20 H15.out.2 (lt_of H15.out.2)))
               obtain ⟨p0, p1, -⟩ := vfacts2 H20.out.1.r4
               obtain ⟨r0, r1, -⟩ := vfacts2 H20.out.2
               clear hb20))
          go_wp2
          go_ret
          exact ⟨rfl, H20.out.1.hb⟩)
  · as_aux_lemma =>
      obtain ⟨cN, hwr, hcN⟩ : ∃ c : Nat, i.tmod ts.length = c ∧ c < ts.length := by
        have := HTB.out
        exact ⟨(i.tmod ts.length).toNat, by omega, by omega⟩
      have HWR := hid hwr
      clear hwr
      go_upto_region 21 with fail
      rw [HWR.out]
      clear hneg
      obtain ⟨u, hu⟩ : ∃ u, ts[cN]? = some u := ⟨_, List.getElem?_eq_getElem hcN⟩
      obtain ⟨z, hz, _, hcz⟩ := H11.out.tn.get hu
      obtain ⟨d0, d1, d2, d3, d4, d5⟩ := hcz
      obtain ⟨r0, r1, -⟩ := vfacts2 H11.out.rq
      obtain ⟨s0, s1, s2, s3, s4, s5, -⟩ := vfacts6 H11.out.bx.r5
      have vz : ∀ o, W11.frozen? ⟨tb, o, none⟩ = false := fun o => by obtain ⟨cs, hcs⟩ := H11.out.tn.bk; simp [World.frozen?, hcs]
      have hcN' : (cN : Int) < (ts.length : Int) := by omega
      have hccN : (ts.length : Int) ≤ (c : Int) := by have := H11.out.tn.hc; omega
      clear hu hz
      go_upto_region 22 with fail
      refine cutG (fun W => Bq w W f (.slice ao ts.length cap) ⟨t, a1, c1, a2, c2⟩ g4 l q (.slice (some ⟨tb, 0, none⟩) ts.length c) (ts.set cN t)) (H11.out.set HX.out hcN) ?_
      intro W12 H12
      have H12 := hid H12
      have HE3 := hid (fun W (h : TsAt 0 W (.slice (some ⟨tb, 0, none⟩) ts.length c) (ts.set cN t)) => bencode_any 0 f _ (ts.set cN t) W h (set_all (sma_L HSA.out) (sma_L HSX.out t (by simp))) (by rw [List.length_set]; omega) (set_all HO.out HX.out.2.2))
      clear d0 d1 d2 d3 d4 d5 r0 r1 s0 s1 s2 s3 s4 s5 vz
      obtain ⟨p0, p1, -⟩ := vfacts2 H12.out.bx.r4
      obtain ⟨r0, r1, -⟩ := vfacts2 H12.out.rq
      cases hR2 : batE f (ts.set cN t) with
      | error E2 =>
        have hE2 : E2 ≠ 0 := batE_err _ _ _ hR2
        have he2 : (E2 == 0) = false := by simpa using hE2
        rw [hR2] at HE3
        unfold BEnc at HE3
        dsimp only at HE3
        clear hR2 hE2
        go_upto_region 23 with (first
          | (go_at_call 8
             refine (HE3.out _ H12.out.st).mono ?_
             rintro e w13 ⟨hb13, rfl⟩
             have H13 := hid (below_on H12.out.bx.hb hb13)
             clear hb13))
        refine reg23 "outright.go:41" _ _ E2 he2 (by simp) rfl _ (fun b9 w20 hdf hv9 hb20 => ?_)
        rename_i hK9
        refine hK9 b9 w20 (wp_ret ?_)
        exact bodyPost_ret (by rw [results_tmp rfl, hv9]) hdf ⟨rfl, below_on H13.out hb20⟩
      | ok n =>
        have hinj := batE_inj HOK.out hR2 HO.out (set_all HO.out HX.out.2.2)
        have hln := (batE_ok hR2).2.1
        rw [← (batE_ok hR2).2.2] at hln
        rw [hR2] at HE3
        unfold BEnc at HE3
        dsimp only at HE3
        have HSm2 := hid (fun W S1 S2 h1 h2 => bsame_any 0 0 f S1 (ts.set cN t) f S2 ts W h1 h2 (set_all (sma_L HSA.out) (sma_L HSX.out t (by simp))) (by rw [List.length_set]; omega))
        have HBY := hid (fun g W ha hb => bytes_any (.slice (some ⟨g4, 0, none⟩) l.length l.length) (.slice (some ⟨g, 0, none⟩) n.length n.length) l n W ha hb (by omega))
        obtain ⟨D, hD⟩ : ∃ D, D = decide (l = n) := ⟨_, rfl⟩
        have hD2 : decide (f = f ∧ ts.set cN t = ts) = D := by
          rw [hD]
          by_cases e : l = n
          · rw [decide_eq_true e, decide_eq_true ⟨rfl, (hinj.1 e).2.symm⟩]
          · rw [decide_eq_false e, decide_eq_false (fun h => e (hinj.2 ⟨rfl, h.2.symm⟩))]
        rw [hD2] at HSm2
        rw [← hD] at HBY
        clear hR2 hinj hD hD2
        cases D
        all_goals (
          go_upto_region 23 with (first
            | (go_at_call 8
               refine (HE3.out _ H12.out.st).mono ?_
               rintro e w13 ⟨hb13, g13, rfl, ho13, hg13⟩
               have H13 := hid (And.intro (H12.out.bx.below hb13) (And.intro (blk_of hb13 H12.out.ow (lt_of H12.out.ow)) (And.intro ho13 (And.intro (H12.out.st.below hb13) (blk_of hb13 H12.out.rq (lt_of H12.out.rq))))))
               obtain ⟨p0, p1, -⟩ := vfacts2 H13.out.1.r4
               obtain ⟨r0, r1, -⟩ := vfacts2 H13.out.2.2.2.2
               clear hb13 ho13 hg13))
          have HSB := hid (And.intro (own_sl (w := w13.drew) H13.out.2.1 (by omega)) (own_sl (w := w13.drew) H13.out.2.2.1 (by omega)))
          go_region_held (fun wx => wx.cell? ⟨q, 0, none⟩ = some (.int .i64 f) ∧ wx.cell? ⟨q, 1, none⟩ = some (.slice (some ⟨tb, 0, none⟩) ts.length c) ∧ wx.cell? ⟨w.heap.size, 0, none⟩ = some (.int .i64 f) ∧ wx.cell? ⟨w.heap.size, 1, none⟩ = some (.slice ao ts.length cap)) (go_keep) (first
            | (go_at_call 13
               refine (HBY.out g13 w13.drew HSB.out.1 HSB.out.2).mono ?_
               rintro e w14 ⟨hd14, rfl⟩
               have hb14 := below_on (below_drew w13) hd14.below
               have H14 := hid (And.intro (H13.out.1.below hb14) (And.intro (H13.out.2.2.2.1.below hb14) (blk_of hb14 H13.out.2.2.2.2 (lt_of H13.out.2.2.2.2))))
               obtain ⟨p0, p1, -⟩ := vfacts2 H14.out.1.r4
               obtain ⟨r0, r1, -⟩ := vfacts2 H14.out.2.2
               clear hd14 hb14)
            | (go_at_call 11
               refine (HSm2.out w14 _ _ H14.out.2.1 (HTS.out.below H14.out.1.hb)).mono ?_
               rintro e w15 ⟨rfl, hb15⟩
               have H15 := hid (And.intro (H14.out.1.below hb15) (blk_of hb15 H14.out.2.2 (lt_of H14.out.2.2)))
               obtain ⟨p0, p1, -⟩ := vfacts2 H15.out.1.r4
               obtain ⟨r0, r1, -⟩ := vfacts2 H15.out.2
               clear hb15)
            | (go_at_call 9
               refine (known_any w15).mono ?_
               rintro e w20 ⟨rfl, hb20⟩
               have H20 := hid (And.intro (H15.out.1.below hb20) (blk_of hb20 H15.out.2 (lt_of H15.out.2)))
               obtain ⟨p0, p1, -⟩ := vfacts2 H20.out.1.r4
               obtain ⟨r0, r1, -⟩ := vfacts2 H20.out.2
               clear hb20))
          go_wp2
          go_ret
          exact ⟨rfl, H20.out.1.hb⟩)
end Go.Proofs.Ytdnlfacfleemeaa
