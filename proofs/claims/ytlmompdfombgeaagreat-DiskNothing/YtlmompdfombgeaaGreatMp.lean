import Derived.Test.YtlmompdfombgeaaGreatSl2
import Derived.Maps.OwnSet
import Derived.Maps.OwnOps
import Derived.Maps.RangeWalk
import Derived.Laws.IdiomRangeMap
namespace Go.Proofs.YtlmompdfombgeaaGreat
open Go.RowKit Go.MapKept

/-- The world with another object in block r. -/
def puts (w : World) (r : Nat) (o : Obj) : World := { w with heap := w.heap.setIfInBounds r o }

theorem puts_same {w : World} {r : Nat} {o o' : Obj} (hb : w.heap[r]? = some o) : (puts w r o').heap[r]? = some o' := (heap_set hb).1
theorem puts_other (w : World) {r k : Nat} (o' : Obj) (h : k ≠ r) : (puts w r o').heap[k]? = w.heap[k]? := by
  simp [puts, Ne.symm h]
theorem puts_size (w : World) (r : Nat) (o' : Obj) : (puts w r o').heap.size = w.heap.size := by simp [puts]
theorem puts_grown (w : World) (r : Nat) (o' : Obj) : w.grownBy (puts w r o') (some r) :=
  ⟨rfl, rfl, rfl, by simp [puts], fun k _ hk => puts_other w o' (fun e => hk (by rw [e]))⟩
theorem Kept.puts {S : Nat → Prop} {a w : World} (h : Kept S a w) {r : Nat} (hp : r < a.heap.size → S r) (o' : Obj) : Kept S a (puts w r o') :=
  h.grown (puts_grown w r o') (fun k hk e => by cases e; exact hp hk)

/-- What a look-up finds. -/
theorem look_found {w : World} {t k e : TypeId} {d : TypeDesc} (ht : Tryz.prog.underlying t = some (.map k e)) (hk : Tryz.prog.underlying k = some d) {b : Nat} {es : Array MapEntry} {c : Nat} (hb : w.heap[b]? = some (.map es c)) {key : Value} (hi : IsKey d key) {i : Nat} {v : Value}
    (hf : Instr.findNow d key es.toList 0 = some (some (i, v))) (ok : Bool) : (Instr.lookup t (.map (some b)) key ok).run Tryz.prog w = .ok (if ok then .tuple #[v, .bool true] else v) w := by
  simp only [Instr.lookup, Sem.run_bind, run_underlying ht, Result.andThen, MapKept.run_getObj_map hb, Sem.run_pure, MapKept.run_checkKey hk hi, run_findKey hk hf]

theorem look_none {w : World} {t k e : TypeId} {d : TypeDesc} (ht : Tryz.prog.underlying t = some (.map k e)) (hk : Tryz.prog.underlying k = some d) {b : Nat} {es : Array MapEntry} {c : Nat} (hb : w.heap[b]? = some (.map es c)) {key : Value} (hi : IsKey d key) {z : Value} (hz : (zeroValue e).run Tryz.prog w = .ok z w)
    (hf : Instr.findNow d key es.toList 0 = some none) (ok : Bool) : (Instr.lookup t (.map (some b)) key ok).run Tryz.prog w = .ok (if ok then .tuple #[z, .bool false] else z) w := by
  simp only [Instr.lookup, Sem.run_bind, run_underlying ht, Result.andThen, MapKept.run_getObj_map hb, Sem.run_pure, MapKept.run_checkKey hk hi, run_findKey hk hf, hz]

theorem look_nil {w : World} {t k e : TypeId} {d : TypeDesc} (ht : Tryz.prog.underlying t = some (.map k e)) (hk : Tryz.prog.underlying k = some d) {key : Value} (hi : IsKey d key) {z : Value} (hz : (zeroValue e).run Tryz.prog w = .ok z w)
    (ok : Bool) : (Instr.lookup t (.map none) key ok).run Tryz.prog w = .ok (if ok then .tuple #[z, .bool false] else z) w := by
  have hf : Instr.findNow d key (#[] : Array MapEntry).toList 0 = some none := rfl
  simp only [Instr.lookup, Sem.run_bind, run_underlying ht, Result.andThen, Sem.run_pure, MapKept.run_checkKey hk hi, run_findKey hk hf, hz]

/-- m[k] = v, the key being new. -/
theorem upd_new {w : World} {t k e : TypeId} {d : TypeDesc} (ht : Tryz.prog.underlying t = some (.map k e)) (hk : Tryz.prog.underlying k = some d) {b : Nat} {es : Array MapEntry} {c : Nat} (hb : w.heap[b]? = some (.map es c)) {key : Value} (hi : IsKey d key) (v : Value)
    (hf : Instr.findNow d key es.toList 0 = some none) : (Instr.mapUpdate t (.map (some b)) key v).run Tryz.prog w = .ok () (puts w b (.map (es.push { key := key, val := v, born := c }) (c + 1))) := by
  simp only [Instr.mapUpdate, Sem.run_bind, run_underlying ht, Result.andThen, MapKept.run_getObj_map hb, MapKept.run_checkKey hk hi, run_findKey hk hf, MapKept.run_setObj_map _ hb, puts]

theorem wpList_upd_new (w : World) {ops : Array Oper} {rest : List Oper} {o : Oper} {a : Act} {Q : Exit → Act → World → Prop}
    (hg : o.guard = none) (m x v : Operand) (t : TypeId) (hop : o.op = Op.mapUpdate t m x v)
    (k e : TypeId) (d : TypeDesc) (ht : Tryz.prog.underlying t = some (.map k e)) (hk : Tryz.prog.underlying k = some d) (b : Nat) (es : Array MapEntry) (c : Nat)
    (hm : a.eval m = .map (some b)) (hb : w.heap[b]? = some (.map es c)) (key val : Value) (hx : a.eval x = key) (hv : a.eval v = val) (hi : IsKey d key) (hf : Instr.findNow d key es.toList 0 = some none)
    (hK : ∀ w', Hid (w'.heap[b]? = some (.map (es.push { key := key, val := val, born := c }) (c + 1))) → Hid (w.grownBy w' (some b)) → Hid (w'.heap.size = w.heap.size) → wpList Tryz.prog ops Q rest (a.put o.dst undef) w') :
    wpList Tryz.prog ops Q (o :: rest) a w := by
  refine wpList_plain hg fun K' hK' => ?_
  have hrun := upd_new ht hk hb hi val hf
  unfold Oper.wp
  simp only [execOp, hop, hm, hx, hv, Sem.run_bind, hrun, Result.andThen, Sem.run_pure]
  exact hK' _ _ (hK _ (hid (puts_same hb)) (hid (puts_grown _ _ _)) (hid (puts_size _ _ _)))

/-- delete, the key being none. -/
theorem wpList_del_none (w : World) {ops : Array Oper} {rest : List Oper} {o : Oper} {a : Act} {Q : Exit → Act → World → Prop}
    (hg : o.guard = none) (m x : Operand) (t : TypeId) (tys : Array TypeId) (hop : o.op = .call { callee := .builtin .delete, args := #[m, x], argTypes := tys }) (hty : tys[0]? = some t)
    (k e : TypeId) (d : TypeDesc) (ht : Tryz.prog.underlying t = some (.map k e)) (hk : Tryz.prog.underlying k = some d) (b : Nat) (es : Array MapEntry) (c : Nat)
    (hm : a.eval m = .map (some b)) (hb : w.heap[b]? = some (.map es c)) (key : Value) (hx : a.eval x = key) (hi : IsKey d key) (hf : Instr.findNow d key es.toList 0 = some none)
    (hK : ∀ w', Hid (w'.heap[b]? = some (.map es c)) → Hid (w.grownBy w' (some b)) → Hid (w'.heap.size = w.heap.size) → wpList Tryz.prog ops Q rest (a.put o.dst (.tuple #[])) w') :
    wpList Tryz.prog ops Q (o :: rest) a w := by
  refine wpList_plain hg fun K' hK' => ?_
  have hrun : (Builtin.delete_ tys o.type #[.map (some b), key]).run Tryz.prog w = .ok (.tuple #[]) (puts w b (.map es c)) := by
    simp only [Builtin.delete_, hty, List.getElem?_toArray, List.getElem?_cons_zero, List.getElem?_cons_succ, Sem.run_bind, run_underlying ht, Result.andThen, MapKept.run_getObj_map hb, MapKept.run_checkKey hk hi, run_findKey hk hf, MapKept.run_setObj_map _ hb, Sem.run_pure, puts]
  unfold Oper.wp execOp
  simp only [hop, resolve, invoke, builtin, Sem.run_bind, Sem.run_pure, Result.andThen_ok, List.map_toArray, List.map_cons, List.map_nil, hm, hx, hrun]
  exact hK' _ _ (hK _ (hid (puts_same hb)) (hid (puts_grown _ _ _)) (hid (puts_size _ _ _)))

theorem len_map {w : World} {t k e : TypeId} (ht : Tryz.prog.underlying t = some (.map k e)) {b : Nat} {es : Array MapEntry} {c : Nat} (hb : w.heap[b]? = some (.map es c)) (ty : TypeId) : (Builtin.len_ #[t] ty #[.map (some b)]).run Tryz.prog w = .ok (.int .i64 es.size) w := by
  simp [Builtin.len_, run_underlying ht, MapKept.run_getObj_map hb, goInt]

end Go.Proofs.YtlmompdfombgeaaGreat
