import Derived.Test.YthcoigbkdbkojabGreatK09
import Derived.ProofKit
import Derived.OpenShut
import Derived.Deep.Slices
import Derived.Maps.OwnSet
import Derived.Maps.OwnOps
import Derived.Maps.RangeWalk
import Derived.Laws.IdiomRangeMap
set_option maxRecDepth 100000
namespace Go.Proofs.YthcoigbkdbkojabGreat
open Go.RowKit
open V (hp_new hp_lt hp_below hp_alloc)
theorem kept_v {S : Nat → Prop} {w w' : World} (h : V.Kept S w w') : Kept S w w' := ⟨h.os, h.tape, h.output, h.size, h.block⟩
theorem hpk {w w' : World} {g : Nat} {o : Obj} {S : Nat → Prop} (h : w.heap[g]? = some o) (hk : Kept S w w') (hg : ¬ S g) : w'.heap[g]? = some o := (hk.block g (hp_lt h) hg).trans h
structure Vd where
  k : Int
  i : Int
  t : ByteArray
abbrev Vd.val (v : Vd) : Value := vl v.k v.i v.t
structure Ms where
  vw : Value
  av : Value
  pc : Int
  rg : Int → Vd
  tv : Value
  wv : Value
  lv : Value
structure Mb (w : World) (mb : Nat) (s : Ms) : Prop where
  ex : ∃ cs, w.heap[mb]? = some (.cells cs 77 (0, 0)) ∧ cs.size = 54 ∧ cs[0]? = some s.vw ∧ cs[1]? = some s.av ∧ cs[2]? = some (.int .i64 s.pc) ∧ cs[51]? = some s.tv ∧ cs[52]? = some s.wv ∧ cs[53]? = some s.lv ∧
    ∀ r : Nat, r < 16 → cs[3 + r * 3]? = some (.int .i64 (s.rg r).k) ∧ cs[3 + r * 3 + 1]? = some (.int .i64 (s.rg r).i) ∧ cs[3 + r * 3 + 2]? = some (.string (s.rg r).t)
section
variable {w w' : World} {mb : Nat} {s : Ms}
theorem Mb.lt (h : Mb w mb s) : mb < w.heap.size := by obtain ⟨cs, h1, -⟩ := h.ex; exact hp_lt h1
theorem Mb.cells (h : Mb w mb s) : w.cell? ⟨mb, 0, none⟩ = some s.vw ∧ w.cell? ⟨mb, 1, none⟩ = some s.av ∧ w.cell? ⟨mb, 2, none⟩ = some (.int .i64 s.pc) ∧ w.cell? ⟨mb, 51, none⟩ = some s.tv ∧ w.cell? ⟨mb, 52, none⟩ = some s.wv ∧ w.cell? ⟨mb, 53, none⟩ = some s.lv := by
  obtain ⟨cs, h1, -, c0, c1, c2, c3, c4, c5, -⟩ := h.ex
  refine ⟨?_, ?_, ?_, ?_, ?_, ?_⟩ <;> (rw [cell_of_row _ _ _ _ _ _ h1]; assumption)
theorem Mb.reg (h : Mb w mb s) (r : Int) (h0 : 0 ≤ r) (h1 : r < 16) : w.cell? ⟨mb, 3 + r.toNat * 3, none⟩ = some (.int .i64 (s.rg r).k) ∧ w.cell? ⟨mb, 3 + r.toNat * 3 + 1, none⟩ = some (.int .i64 (s.rg r).i) ∧ w.cell? ⟨mb, 3 + r.toNat * 3 + 2, none⟩ = some (.string (s.rg r).t) := by
  obtain ⟨cs, hb, -, -, -, -, -, -, -, hr⟩ := h.ex
  obtain ⟨a, b, c⟩ := hr r.toNat (by omega)
  rw [Int.toNat_of_nonneg h0] at a b c
  refine ⟨?_, ?_, ?_⟩ <;> (rw [cell_of_row _ _ _ _ _ _ hb]; assumption)
theorem Mb.free (h : Mb w mb s) (o : Nat) : w.frozen? ⟨mb, o, none⟩ = false := by obtain ⟨cs, h1, -⟩ := h.ex; exact free_of_block h1
theorem Mb.kept {S : Nat → Prop} (h : Mb w mb s) (hk : Kept S w w') (hS : ¬ S mb) : Mb w' mb s := by
  obtain ⟨cs, h1, h2⟩ := h.ex
  exact ⟨cs, hpk h1 hk hS, h2⟩
theorem Mb.below (h : Mb w mb s) (hb : Below w.heap.size w w') : Mb w' mb s := h.kept (Kept.ofBelow hb) fun e => e
def Ms.set (s : Ms) (r : Int) (v : Vd) : Ms := { s with rg := fun q => if q = r then v else s.rg q }
theorem Mb.setReg (h : Mb w mb s) (r : Int) (h0 : 0 ≤ r) (h1 : r < 16) (v : Vd) : Mb (((w.setCell ⟨mb, 3 + r.toNat * 3, none⟩ (.int .i64 v.k)).setCell ⟨mb, 3 + r.toNat * 3 + 1, none⟩ (.int .i64 v.i)).setCell ⟨mb, 3 + r.toNat * 3 + 2, none⟩ (.string v.t)) mb (s.set r v) := by
  obtain ⟨cs, hb, hz, c0, c1, c2, c3, c4, c5, hr⟩ := h.ex
  refine ⟨_, V.set_block (V.set_block (V.set_block hb (.int .i64 v.k)) (.int .i64 v.i)) (.string v.t), by simp [hz], ?_, ?_, ?_, ?_, ?_, ?_, fun q hq => ?_⟩
  · rw [Array.getElem?_setIfInBounds, if_neg (by omega), Array.getElem?_setIfInBounds, if_neg (by omega), Array.getElem?_setIfInBounds, if_neg (by omega)]; exact c0
  · rw [Array.getElem?_setIfInBounds, if_neg (by omega), Array.getElem?_setIfInBounds, if_neg (by omega), Array.getElem?_setIfInBounds, if_neg (by omega)]; exact c1
  · rw [Array.getElem?_setIfInBounds, if_neg (by omega), Array.getElem?_setIfInBounds, if_neg (by omega), Array.getElem?_setIfInBounds, if_neg (by omega)]; exact c2
  · rw [Array.getElem?_setIfInBounds, if_neg (by omega), Array.getElem?_setIfInBounds, if_neg (by omega), Array.getElem?_setIfInBounds, if_neg (by omega)]; exact c3
  · rw [Array.getElem?_setIfInBounds, if_neg (by omega), Array.getElem?_setIfInBounds, if_neg (by omega), Array.getElem?_setIfInBounds, if_neg (by omega)]; exact c4
  · rw [Array.getElem?_setIfInBounds, if_neg (by omega), Array.getElem?_setIfInBounds, if_neg (by omega), Array.getElem?_setIfInBounds, if_neg (by omega)]; exact c5
  · have hsz := hz
    by_cases e : (q : Int) = r
    · have e2 : q = r.toNat := by omega
      subst e2
      have ev : (s.set r v).rg (r.toNat : Int) = v := by show (if (r.toNat : Int) = r then v else s.rg _) = v; rw [if_pos e]
      rw [ev]
      refine ⟨?_, ?_, ?_⟩
      · rw [Array.getElem?_setIfInBounds, if_neg (by omega), Array.getElem?_setIfInBounds, if_neg (by omega), Array.getElem?_setIfInBounds, if_pos rfl, if_pos (by omega)]
      · rw [Array.getElem?_setIfInBounds, if_neg (by omega), Array.getElem?_setIfInBounds, if_pos rfl, if_pos (by rw [Array.size_setIfInBounds]; omega)]
      · rw [Array.getElem?_setIfInBounds, if_pos rfl, if_pos (by rw [Array.size_setIfInBounds, Array.size_setIfInBounds]; omega)]
    · have e2 : q ≠ r.toNat := by omega
      have ev : (s.set r v).rg (q : Int) = s.rg q := by show (if (q : Int) = r then v else s.rg _) = _; rw [if_neg e]
      rw [ev]
      obtain ⟨a, b, c⟩ := hr q hq
      refine ⟨?_, ?_, ?_⟩
      · rw [Array.getElem?_setIfInBounds, if_neg (by omega), Array.getElem?_setIfInBounds, if_neg (by omega), Array.getElem?_setIfInBounds, if_neg (by omega)]; exact a
      · rw [Array.getElem?_setIfInBounds, if_neg (by omega), Array.getElem?_setIfInBounds, if_neg (by omega), Array.getElem?_setIfInBounds, if_neg (by omega)]; exact b
      · rw [Array.getElem?_setIfInBounds, if_neg (by omega), Array.getElem?_setIfInBounds, if_neg (by omega), Array.getElem?_setIfInBounds, if_neg (by omega)]; exact c
theorem Mb.setOne (h : Mb w mb s) (o : Nat) (ho : o = 2 ∨ o = 51 ∨ o = 53) (v : Value) (s' : Ms) (h2 : s'.vw = s.vw ∧ s'.av = s.av ∧ s'.wv = s.wv ∧ s'.rg = s.rg) (e1 : .int .i64 s'.pc = if o = 2 then v else .int .i64 s.pc) (e2 : s'.tv = if o = 51 then v else s.tv) (e3 : s'.lv = if o = 53 then v else s.lv) : Mb (w.setCell ⟨mb, o, none⟩ v) mb s' := by
  obtain ⟨cs, hb, hz, c0, c1, c2, c3, c4, c5, hr⟩ := h.ex
  obtain ⟨q1, q2, q3, q4⟩ := h2
  refine ⟨_, V.set_block hb v, by simp [hz], ?_, ?_, ?_, ?_, ?_, ?_, fun q hq => ?_⟩
  · rw [Array.getElem?_setIfInBounds, if_neg (by omega), q1]; exact c0
  · rw [Array.getElem?_setIfInBounds, if_neg (by omega), q2]; exact c1
  · rw [Array.getElem?_setIfInBounds, e1]
    by_cases e : o = 2
    · rw [if_pos e, if_pos e, if_pos (by omega)]
    · rw [if_neg e, if_neg e]; exact c2
  · rw [Array.getElem?_setIfInBounds, e2]
    by_cases e : o = 51
    · rw [if_pos e, if_pos e, if_pos (by omega)]
    · rw [if_neg e, if_neg e]; exact c3
  · rw [Array.getElem?_setIfInBounds, if_neg (by omega), q3]; exact c4
  · rw [Array.getElem?_setIfInBounds, e3]
    by_cases e : o = 53
    · rw [if_pos e, if_pos e, if_pos (by omega)]
    · rw [if_neg e, if_neg e]; exact c5
  · obtain ⟨a, b, c⟩ := hr q hq
    rw [q4]
    refine ⟨?_, ?_, ?_⟩ <;> (rw [Array.getElem?_setIfInBounds, if_neg (by omega)]; assumption)
theorem Mb.setAt (h : Mb w mb s) (n : Int) : Mb (w.setCell ⟨mb, 2, none⟩ (.int .i64 n)) mb { s with pc := n } := h.setOne 2 (.inl rfl) _ _ ⟨rfl, rfl, rfl, rfl⟩ rfl rfl rfl
theorem Mb.setTold (h : Mb w mb s) (v : Value) : Mb (w.setCell ⟨mb, 51, none⟩ v) mb { s with tv := v } := h.setOne 51 (.inr (.inl rfl)) _ _ ⟨rfl, rfl, rfl, rfl⟩ rfl rfl rfl
theorem Mb.setLooks (h : Mb w mb s) (v : Value) : Mb (w.setCell ⟨mb, 53, none⟩ v) mb { s with lv := v } := h.setOne 53 (.inr (.inr rfl)) _ _ ⟨rfl, rfl, rfl, rfl⟩ rfl rfl rfl
end
theorem add_lit (b off j : Nat) : (⟨b, off, none⟩ : Addr).add j = ⟨b, off + j, none⟩ := by
  unfold Addr.add; split <;> simp_all
theorem own_shape {w : World} {B : Nat} {e : TypeId} {size : Nat} {v : Value} {n : Nat} {xs : List Value} (h : w.ownsRow B e size v n xs) : ∃ ao c, v = .slice ao n c := by
  rcases h.2 with ⟨e1, e2⟩ | ⟨g, cap, cur, e1, _⟩
  · exact ⟨none, 0, by rw [e1, e2]⟩
  · exact ⟨_, _, e1⟩
theorem owns_nil (w : World) (B : Nat) (e : TypeId) (size : Nat) : w.ownsRow B e size (.slice none 0 0) 0 [] := ⟨by simp, .inl ⟨rfl, rfl⟩⟩
theorem owns_mono {W : World} {B B' : Nat} {e : TypeId} {m : Nat} {v : Value} {n : Nat} {xs : List Value} (h : W.ownsRow B e m v n xs) (hB : B' ≤ B) : W.ownsRow B' e m v n xs := by
  refine ⟨h.1, ?_⟩
  rcases h.2 with h0 | ⟨g, cap, cur, e1, hb, rest⟩
  · exact .inl h0
  · exact .inr ⟨g, cap, cur, e1, Nat.le_trans hB hb, rest⟩
theorem owns_ty {W : World} {B : Nat} {e : TypeId} {m : Nat} {v : Value} {n : Nat} {xs : List Value} (h : W.ownsRow B e m v n xs) {k : Nat} (hk : v.ownBlock = some k) : ∃ cur, W.heap[k]? = some (.cells cur e (0, 0)) := by
  rcases h.2 with ⟨rfl, _⟩ | ⟨g', cap, cur, rfl, _, hgg, _⟩
  · simp [Value.ownBlock] at hk
  · simp [Value.ownBlock] at hk
    subst hk
    exact ⟨cur, hgg⟩
theorem owns_ne {W : World} {B B' : Nat} {e e' : TypeId} {m m' : Nat} {v v' : Value} {n n' : Nat} {xs xs' : List Value} (h : W.ownsRow B e m v n xs) (h' : W.ownsRow B' e' m' v' n' xs') (he : e ≠ e') (k : Nat) (hk : v.ownBlock = some k) : ¬ v'.ownBlock = some k := fun hk' => by
  obtain ⟨c1, h1⟩ := owns_ty h hk
  obtain ⟨c2, h2⟩ := owns_ty h' hk'
  rw [h1] at h2
  injection h2 with h2
  injection h2 with _ h2
  exact he h2
def Rf (w : World) (m : Nat) (v : Value) (n : Nat) (cs : List Value) : Prop :=
  cs.length = n * m ∧ (∀ u ∈ cs, u.oneCell' = true) ∧ ((v = .slice none 0 0 ∧ n = 0) ∨ ∃ a cap, v = .slice (some a) n cap ∧ n ≤ cap ∧ cap ≤ maxLen ∧ ∀ j u, cs[j]? = some u → w.cell? (a.add j) = some u)
theorem rf_nil (w : World) (m : Nat) : Rf w m (.slice none 0 0) 0 [] := ⟨by simp, (fun _ h => nomatch h), .inl ⟨rfl, rfl⟩⟩
theorem Rf.shape {w : World} {m : Nat} {v : Value} {n : Nat} {cs : List Value} (h : Rf w m v n cs) : ∃ ao cap, v = .slice ao n cap ∧ n ≤ cap ∧ cap ≤ maxLen := by
  rcases h.2.2 with ⟨rfl, rfl⟩ | ⟨a, cap, rfl, h1, h2, _⟩
  · exact ⟨none, 0, rfl, Nat.le_refl _, by simp [maxLen]⟩
  · exact ⟨_, _, rfl, h1, h2⟩
theorem Rf.lits {w : World} {m : Nat} {v : Value} {n : Nat} {cs : List Value} (h : Rf w m v n cs) (h0 : 0 < n) (hm : 0 < m) : ∃ b off cap, v = .slice (some ⟨b, off, none⟩) n cap ∧ n ≤ cap ∧ cap ≤ maxLen ∧ ∀ j u, cs[j]? = some u → w.cell? ⟨b, off + j, none⟩ = some u := by
  obtain ⟨hl, -, h2⟩ := h
  rcases h2 with ⟨rfl, rfl⟩ | ⟨a, cap, rfl, h3, h5, h4⟩
  · omega
  · obtain ⟨b, off, spot⟩ := a
    have hpos : 0 < cs.length := by rw [hl]; exact Nat.mul_pos h0 hm
    have c0 := h4 0 cs[0] (by simp [hpos])
    have hspot : spot = none := by simpa [Addr.add] using World.cell?_spot c0
    subst hspot
    refine ⟨b, off, cap, rfl, h3, h5, fun j u hu => ?_⟩
    have := h4 j u hu
    rwa [add_lit] at this
theorem Rf.kept {w w' : World} {m : Nat} {v : Value} {n : Nat} {cs : List Value} {S : Nat → Prop} (h : Rf w m v n cs) (hk : Kept S w w') (hn : ∀ k, v.ownBlock = some k → ¬ S k) : Rf w' m v n cs := by
  obtain ⟨h0, h1, h2⟩ := h
  refine ⟨h0, h1, ?_⟩
  rcases h2 with h2 | ⟨a, cap, rfl, h3, h5, h4⟩
  · exact .inl h2
  · refine .inr ⟨a, cap, rfl, h3, h5, fun j u hu => hk.cell (h4 j u hu) ?_⟩
    have e : (a.add j).block = a.block := by unfold Addr.add; split <;> rfl
    rw [e]
    exact hn _ rfl
theorem Rf.below {w w' : World} {m : Nat} {v : Value} {n : Nat} {cs : List Value} (h : Rf w m v n cs) (hk : Below w.heap.size w w') : Rf w' m v n cs := h.kept (Kept.ofBelow hk) (fun _ _ h => h)
theorem rf_of_owns {w : World} {B : Nat} {e : TypeId} {m : Nat} {v : Value} {n : Nat} {xs : List Value} (h : w.ownsRow B e m v n xs) (h1 : ∀ u ∈ xs, u.oneCell' = true) : Rf w m v n xs := by
  refine ⟨h.1, h1, ?_⟩
  rcases h.2 with h0 | ⟨g, cap, cur, rfl, hb, hg, hc, hm, hs, ht⟩
  · exact .inl h0
  · refine .inr ⟨_, cap, rfl, hc, hm, fun j u hu => ?_⟩
    exact h.cells (g := g) rfl j u hu
theorem append_rf (w : World) (ty : TypeId) (B : Nat) (t e : TypeId) (z : Value) (m bytes : Nat) (ht : Tryz.prog.underlying t = some (.slice e)) (hinfo : (Tryz.prog.info? e).map (fun i => (i.zero, i.size, i.bytes)) = some (some z, m, bytes)) (hzs : z.cells.size = m) (hm : 0 < m)
    (v : Value) (n : Nat) (xs : List Value) (hown : w.ownsRow B e m v n xs) (sv : Value) (k : Nat) (ys : List Value) (hs : Rf w m sv k ys) (hl : (n + k) * bytes ≤ 140737488355328) (hl2 : n + k ≤ maxLen) (hbase : B ≤ w.heap.size) :
    ∃ v' w', (Builtin.append_ #[t, t] ty #[v, sv]).run Tryz.prog w = .ok v' w' ∧ w'.ownsRow B e m v' (n + k) (xs ++ ys) ∧ w.grownBy w' v.ownBlock ∧ (v'.ownBlock = v.ownBlock ∨ v'.ownBlock = some w.heap.size) := by
  obtain ⟨i0, hi, hz0, hz1, hz2⟩ := info_parts hinfo
  obtain ⟨h0, h1, h2⟩ := hs
  rcases h2 with ⟨rfl, rfl⟩ | ⟨a, cap, rfl, h3, h5, h4⟩
  · have hy : ys = [] := List.eq_nil_of_length_eq_zero (by simpa using h0)
    subst hy
    exact ⟨v, w, run_append_owned_none (P := Tryz.prog) (w := w) B t ty e i0 m ht hi v n xs hown, by simpa using hown, ⟨rfl, rfl, rfl, Nat.le_refl _, fun _ _ _ => rfl⟩, .inl rfl⟩
  · obtain ⟨v', w', hr, q1, q2, _, q4⟩ := run_append_own_at (P := Tryz.prog) w B t ty e i0 z m bytes ht hi hz0 hz1 hz2 hzs hm v n xs hown a k cap ys h0 h4 h1 hl2 hl hbase
    exact ⟨v', w', hr, q1, q2, q4⟩
theorem wpList_append_rf (w : World) {ops : Array Oper} {rest : List Oper} {o : Oper} {a : Act} {Q : Exit → Act → World → Prop} (hgd : o.guard = none) (s x : Operand) (t e : TypeId) (z : Value) (m bytes : Nat)
    (ho : o.op = .call { callee := .builtin .append, args := #[s, x], argTypes := #[t, t] }) (ht : Tryz.prog.underlying t = some (.slice e)) (hinfo : (Tryz.prog.info? e).map (fun i => (i.zero, i.size, i.bytes)) = some (some z, m, bytes)) (hzs : z.cells.size = m) (hm : 0 < m)
    (B : Nat) (v : Value) (n : Nat) (xs : List Value) (hs : a.eval s = v) (hown : w.ownsRow B e m v n xs)
    (sv : Value) (k : Nat) (ys : List Value) (hx : a.eval x = sv) (hsn : Rf w m sv k ys) (hl : (n + k) * bytes ≤ 140737488355328) (hl2 : n + k ≤ maxLen) (hbase : B ≤ w.heap.size)
    (h : ∀ ao c w', Hid (w'.ownsRow B e m (.slice ao (n + k) c) (n + k) (xs ++ ys)) → Hid (w.grownBy w' v.ownBlock) → Hid ((Value.slice ao (n + k) c).ownBlock = v.ownBlock ∨ (Value.slice ao (n + k) c).ownBlock = some w.heap.size) → wpList Tryz.prog ops Q rest (a.put o.dst (.slice ao (n + k) c)) w') : wpList Tryz.prog ops Q (o :: rest) a w := by
  refine wpList_plain hgd fun K hK => ?_
  obtain ⟨v', w', hr, h2, h3, h4⟩ := append_rf w o.type B t e z m bytes ht hinfo hzs hm v n xs hown sv k ys hsn hl hl2 hbase
  obtain ⟨ao, c, rfl⟩ := own_shape h2
  unfold Oper.wp execOp
  simp only [ho, resolve, invoke, builtin, Sem.run_bind, Sem.run_pure, Result.andThen_ok, List.map_toArray, List.map_cons, List.map_nil, hs, hx, hr]
  exact hK _ _ (h ao c w' (hid h2) (hid h3) (hid h4))
theorem step_append_rf (w : World) {ops : Array Oper} {o : Oper} {a : Act} {K : Act → World → Prop} {Q : Exit → Act → World → Prop} {E : Prop} (hgd : o.guard = none) (s x : Operand) (t e : TypeId) (z : Value) (m bytes : Nat)
    (ho : o.op = .call { callee := .builtin .append, args := #[s, x], argTypes := #[t, t] }) (ht : Tryz.prog.underlying t = some (.slice e)) (hinfo : (Tryz.prog.info? e).map (fun i => (i.zero, i.size, i.bytes)) = some (some z, m, bytes)) (hzs : z.cells.size = m) (hm : 0 < m)
    (B : Nat) (v : Value) (n : Nat) (xs : List Value) (hs : a.eval s = v) (hown : w.ownsRow B e m v n xs)
    (sv : Value) (k : Nat) (ys : List Value) (hx : a.eval x = sv) (hsn : Rf w m sv k ys) (hl : (n + k) * bytes ≤ 140737488355328) (hl2 : n + k ≤ maxLen) (hbase : B ≤ w.heap.size)
    (h : ∀ ao c w', Hid (w'.ownsRow B e m (.slice ao (n + k) c) (n + k) (xs ++ ys)) → Hid (w.grownBy w' v.ownBlock) → Hid ((Value.slice ao (n + k) c).ownBlock = v.ownBlock ∨ (Value.slice ao (n + k) c).ownBlock = some w.heap.size) → K (a.put o.dst (.slice ao (n + k) c)) w') :
    if Region.wanted o (yielded ops a.tmps) = true then Oper.wp Tryz.prog o a w K Q else E := by
  have hw : Region.wanted o (yielded ops a.tmps) = true := by simp [Region.wanted, hgd]
  rw [if_pos hw]
  obtain ⟨v', w', hr, h2, h3, h4⟩ := append_rf w o.type B t e z m bytes ht hinfo hzs hm v n xs hown sv k ys hsn hl hl2 hbase
  obtain ⟨ao, c, rfl⟩ := own_shape h2
  unfold Oper.wp execOp
  simp only [ho, resolve, invoke, builtin, Sem.run_bind, Sem.run_pure, Result.andThen_ok, List.map_toArray, List.map_cons, List.map_nil, hs, hx, hr]
  exact h ao c w' (hid h2) (hid h3) (hid h4)
theorem flat_get {α : Type} (f : α → List Value) (m : Nat) (hf : ∀ x, (f x).length = m) : ∀ (xs : List α) (k c : Nat), c < m → (xs.flatMap f)[k * m + c]? = (xs[k]?).bind (fun x => (f x)[c]?)
  | [], k, c, _ => by simp
  | x :: xs, 0, c, h => by simp [List.getElem?_append_left, hf, h]
  | x :: xs, k + 1, c, h => by
    have ih := flat_get f m hf xs k c h
    rw [List.flatMap_cons, List.getElem?_append_right (by rw [hf, Nat.succ_mul]; omega), hf]
    have e : (k + 1) * m + c - m = k * m + c := by rw [Nat.succ_mul]; omega
    rw [e, ih]
    simp
theorem flat_len {α : Type} (f : α → List Value) (m : Nat) (hf : ∀ x, (f x).length = m) : ∀ xs : List α, (xs.flatMap f).length = xs.length * m
  | [] => by simp
  | x :: xs => by rw [List.flatMap_cons, List.length_append, hf, flat_len f m hf xs, List.length_cons, Nat.succ_mul]; omega
theorem rf_new (w : World) (t : TypeId) (cs : Array Value) (m : Nat) (hm : cs.size = m) (h1 : ∀ u ∈ cs.toList, u.oneCell' = true) : Rf (w.alloc (.cells cs t)) m (.slice (some ⟨w.heap.size, 0, none⟩) 1 1) 1 cs.toList := by
  have h : (w.alloc (.cells cs t)).ownsRow 0 t m (.slice (some ⟨w.heap.size, 0, none⟩) 1 1) 1 cs.toList := ⟨by simp [hm], .inr ⟨w.heap.size, 1, _, rfl, Nat.zero_le _, hp_new w _, Nat.le_refl _, by decide, by simp [hm], by rw [List.take_of_length_le (by simp [hm])]⟩⟩
  exact rf_of_owns h h1
end Go.Proofs.YthcoigbkdbkojabGreat
namespace Go.Proofs.YthcoigbkdbkojabGreat
open Go.RowKit Go.MapKept
open V (hp_new hp_lt hp_below)
def puts (w : World) (r : Nat) (o : Obj) : World := { w with heap := w.heap.setIfInBounds r o }
theorem puts_same {w : World} {r : Nat} {o o' : Obj} (hb : w.heap[r]? = some o) : (puts w r o').heap[r]? = some o' := (heap_set hb).1
theorem puts_other (w : World) {r k : Nat} (o' : Obj) (h : k ≠ r) : (puts w r o').heap[k]? = w.heap[k]? := by
  simp [puts, Ne.symm h]
theorem puts_size (w : World) (r : Nat) (o' : Obj) : (puts w r o').heap.size = w.heap.size := by simp [puts]
theorem puts_grown (w : World) (r : Nat) (o' : Obj) : w.grownBy (puts w r o') (some r) :=
  ⟨rfl, rfl, rfl, by simp [puts], fun k _ hk => puts_other w o' (fun e => hk (by rw [e]))⟩
theorem look_found {w : World} {t k e : TypeId} {d : TypeDesc} (ht : Tryz.prog.underlying t = some (.map k e)) (hk : Tryz.prog.underlying k = some d) {b : Nat} {es : Array MapEntry} {c : Nat} (hb : w.heap[b]? = some (.map es c)) {key : Value} (hi : IsKey d key) {i : Nat} {v : Value}
    (hf : Instr.findNow d key es.toList 0 = some (some (i, v))) (ok : Bool) : (Instr.lookup t (.map (some b)) key ok).run Tryz.prog w = .ok (if ok then .tuple #[v, .bool true] else v) w := by
  simp only [Instr.lookup, Sem.run_bind, run_underlying ht, Result.andThen, MapKept.run_getObj_map hb, Sem.run_pure, MapKept.run_checkKey hk hi, run_findKey hk hf]
theorem look_none {w : World} {t k e : TypeId} {d : TypeDesc} (ht : Tryz.prog.underlying t = some (.map k e)) (hk : Tryz.prog.underlying k = some d) {b : Nat} {es : Array MapEntry} {c : Nat} (hb : w.heap[b]? = some (.map es c)) {key : Value} (hi : IsKey d key) {z : Value} (hz : (zeroValue e).run Tryz.prog w = .ok z w)
    (hf : Instr.findNow d key es.toList 0 = some none) (ok : Bool) : (Instr.lookup t (.map (some b)) key ok).run Tryz.prog w = .ok (if ok then .tuple #[z, .bool false] else z) w := by
  simp only [Instr.lookup, Sem.run_bind, run_underlying ht, Result.andThen, MapKept.run_getObj_map hb, Sem.run_pure, MapKept.run_checkKey hk hi, run_findKey hk hf, hz]
theorem upd_new {w : World} {t k e : TypeId} {d : TypeDesc} (ht : Tryz.prog.underlying t = some (.map k e)) (hk : Tryz.prog.underlying k = some d) {b : Nat} {es : Array MapEntry} {c : Nat} (hb : w.heap[b]? = some (.map es c)) {key : Value} (hi : IsKey d key) (v : Value)
    (hf : Instr.findNow d key es.toList 0 = some none) : (Instr.mapUpdate t (.map (some b)) key v).run Tryz.prog w = .ok () (puts w b (.map (es.push { key := key, val := v, born := c }) (c + 1))) := by
  simp only [Instr.mapUpdate, Sem.run_bind, run_underlying ht, Result.andThen, MapKept.run_getObj_map hb, MapKept.run_checkKey hk hi, run_findKey hk hf, MapKept.run_setObj_map _ hb, puts]
theorem key_str (s : ByteArray) : IsKey .string (.string s) := by simp [IsKey]
theorem hp_kept {w w' : World} {g : Nat} {o : Obj} {S : Nat → Prop} (h : w.heap[g]? = some o) (hk : Kept S w w') (hg : ¬ S g) : w'.heap[g]? = some o := hpk h hk hg
structure Ky (κ : Type) [DecidableEq κ] where
  d : TypeDesc
  enc : κ → Value
  same : ∀ a b, Instr.sameNow d (enc a) (enc b) = some (decide (a = b))
  key : ∀ a, IsKey d (enc a)
structure MG {κ : Type} [DecidableEq κ] (K : Ky κ) (w : World) (b : Nat) (kv : List (κ × Value)) (es : Array MapEntry) (c : Nat) : Prop where
  blk : w.heap[b]? = some (.map es c)
  hold : ∀ x ∈ es.toList, x.born < c
  nd : (es.toList.map MapEntry.born).Nodup
  kvs : es.toList.map (fun e => (e.key, e.val)) = kv.map (fun x => (K.enc x.1, x.2))
  keys : (kv.map Prod.fst).Nodup
section
variable {κ : Type} [DecidableEq κ] (K : Ky κ)
theorem find_kv (k : κ) : ∀ (es : List MapEntry) (kv : List (κ × Value)) (i : Nat), es.map (fun e => (e.key, e.val)) = kv.map (fun x => (K.enc x.1, x.2)) →
    (kv.lookup k = none ∧ Instr.findNow K.d (K.enc k) es i = some none) ∨ ∃ v j, kv.lookup k = some v ∧ kv[j]? = some (k, v) ∧ Instr.findNow K.d (K.enc k) es i = some (some (i + j, v))
  | [], [], i, _ => .inl ⟨rfl, rfl⟩
  | e :: es, [], i, h => by simp at h
  | [], x :: kv, i, h => by simp at h
  | e :: es, x :: kv, i, h => by
    simp only [List.map_cons, List.cons.injEq, Prod.mk.injEq] at h
    obtain ⟨⟨hk, hv⟩, ht⟩ := h
    by_cases hx : k = x.1
    · right
      refine ⟨x.2, 0, by rw [List.lookup_cons, hx]; simp, by simp [hx], ?_⟩
      unfold Instr.findNow
      rw [hk, K.same, hx]
      simp [hv]
    · rcases find_kv k es kv (i + 1) ht with ⟨h1, h2⟩ | ⟨v, j, h1, h2, h3⟩
      · left
        refine ⟨by rw [List.lookup_cons, show (k == x.1) = false by simpa using hx]; exact h1, ?_⟩
        unfold Instr.findNow
        rw [hk, K.same]
        simp [hx, h2]
      · right
        refine ⟨v, j + 1, by rw [List.lookup_cons, show (k == x.1) = false by simpa using hx]; exact h1, by simpa using h2, ?_⟩
        unfold Instr.findNow
        rw [hk, K.same]
        simp [hx, h3]
        omega
variable {K} {w w' : World} {b c : Nat} {kv : List (κ × Value)} {es : Array MapEntry}
theorem MG.kept {S : Nat → Prop} (h : MG K w b kv es c) (hk : Kept S w w') (hn : ¬ S b) : MG K w' b kv es c := ⟨hp_kept h.blk hk hn, h.hold, h.nd, h.kvs, h.keys⟩
theorem MG.below (h : MG K w b kv es c) (hk : Below w.heap.size w w') : MG K w' b kv es c := h.kept (Kept.ofBelow hk) (fun e => e)
theorem MG.size (h : MG K w b kv es c) : es.size = kv.length := by
  have := congrArg List.length h.kvs
  simpa using this
theorem MG.look (h : MG K w b kv es c) {t kt e : TypeId} (ht : Tryz.prog.underlying t = some (.map kt e)) (hk : Tryz.prog.underlying kt = some K.d) {z : Value} (hz : (zeroValue e).run Tryz.prog w = .ok z w) (k : κ) (ok : Bool) :
    (Instr.lookup t (.map (some b)) (K.enc k) ok).run Tryz.prog w = .ok (if ok then .tuple #[(kv.lookup k).getD z, .bool (kv.lookup k).isSome] else (kv.lookup k).getD z) w := by
  rcases find_kv K k es.toList kv 0 h.kvs with ⟨h1, h2⟩ | ⟨v, j, h1, _, h3⟩
  · rw [h1]
    exact look_none ht hk h.blk (K.key k) hz h2 ok
  · rw [h1]
    exact look_found ht hk h.blk (K.key k) h3 ok
theorem MG.noKey (h : MG K w b kv es c) (k : κ) (hn : kv.lookup k = none) : Instr.findNow K.d (K.enc k) es.toList 0 = some none := by
  rcases find_kv K k es.toList kv 0 h.kvs with ⟨_, h2⟩ | ⟨v, j, h1, _, _⟩
  · exact h2
  · rw [hn] at h1; cases h1
theorem lookup_none_mem {k : κ} : ∀ {kv : List (κ × Value)}, kv.lookup k = Option.none → k ∉ kv.map Prod.fst
  | [], _ => by simp
  | x :: kv, h => by
    rw [List.lookup_cons] at h
    by_cases hx : k = x.1
    · simp [hx] at h
    · rw [show (k == x.1) = false by simpa using hx] at h
      have := lookup_none_mem (kv := kv) h
      simp [hx] at this ⊢
      exact this
theorem MG.push (h : MG K w b kv es c) (k : κ) (v : Value) (hn : kv.lookup k = none) (hb : w'.heap[b]? = some (.map (es.push { key := K.enc k, val := v, born := c }) (c + 1))) : MG K w' b (kv ++ [(k, v)]) (es.push { key := K.enc k, val := v, born := c }) (c + 1) := by
  refine ⟨hb, ?_, ?_, ?_, ?_⟩
  · intro x hx
    simp at hx
    rcases hx with hx | rfl
    · have := h.hold x (by simpa using hx); omega
    · exact Nat.lt_succ_self _
  · rw [Array.toList_push, List.map_append, List.nodup_append]
    refine ⟨h.nd, by simp, ?_⟩
    intro a ha a' ha' e
    simp at ha'
    subst ha'
    obtain ⟨x, hx, hxa⟩ := List.mem_map.1 ha
    have := h.hold x hx
    omega
  · rw [Array.toList_push, List.map_append, h.kvs]
    simp
  · rw [List.map_append, List.nodup_append]
    refine ⟨h.keys, by simp, ?_⟩
    intro a ha a' ha' e
    simp at ha'
    subst ha' e
    exact lookup_none_mem hn ha
end
theorem same_dec {κ : Type} [DecidableEq κ] (d : TypeDesc) (enc : κ → Value) (hk : ∀ a, IsKey d (enc a)) (hi : ∀ a b, enc a = enc b → a = b) (a b : κ) : Instr.sameNow d (enc a) (enc b) = some (decide (a = b)) := by
  obtain ⟨r, h1, h2⟩ := sameNow_of_keys (hk a) (hk b)
  rw [h1]
  congr 1
  by_cases e : a = b
  · subst e
    simpa using h2.2 rfl
  · have : r ≠ true := fun h => e (hi a b (h2.1 h))
    simp [e]
    simpa using this
def KS : Ky ByteArray := ⟨.string, .string, same_dec _ _ key_str (fun a b h => by injection h), key_str⟩
end Go.Proofs.YthcoigbkdbkojabGreat
namespace Go.Proofs.YthcoigbkdbkojabGreat
open Go.RowKit
open V (hp_new hp_lt hp_below hp_alloc)
theorem cells8 {w : World} {p : Nat} {a b c d e f g i : Value} {t : TypeId} (h : w.heap[p]? = some (.cells #[a, b, c, d, e, f, g, i] t (0, 0))) : w.cell? ⟨p, 0, none⟩ = some a ∧ w.cell? ⟨p, 1, none⟩ = some b ∧ w.cell? ⟨p, 2, none⟩ = some c ∧ w.cell? ⟨p, 3, none⟩ = some d ∧ w.cell? ⟨p, 4, none⟩ = some e ∧ w.cell? ⟨p, 5, none⟩ = some f ∧ w.cell? ⟨p, 6, none⟩ = some g ∧ w.cell? ⟨p, 7, none⟩ = some i := by
  refine ⟨?_, ?_, ?_, ?_, ?_, ?_, ?_, ?_⟩ <;> (rw [cell_of_row w p _ _ _ _ h]; rfl)
def Va (w : World) (v : Value) (l : List Vd) : Prop := ∃ ao cap, v = .slice ao l.length cap ∧ l.length ≤ cap ∧ (l ≠ [] → ∃ b off, ao = some ⟨b, off, none⟩ ∧ ∀ j x, l[j]? = some x → w.cell? ⟨b, off + j * 3, none⟩ = some (.int .i64 x.k) ∧ w.cell? ⟨b, off + j * 3 + 1, none⟩ = some (.int .i64 x.i) ∧ w.cell? ⟨b, off + j * 3 + 2, none⟩ = some (.string x.t))
def vcs (v : Vd) : List Value := [.int .i64 v.k, .int .i64 v.i, .string v.t]
def lcs (x : ByteArray × ByteArray) : List Value := [.string x.1, .string x.2]
structure MX (w : World) (B mb : Nat) (s : Ms) (td : List Vd) (lk : List (ByteArray × ByteArray)) (M : Nat) (kv : List (ByteArray × Value)) : Prop where
  m : Mb w mb s
  ge : B ≤ mb
  td : w.ownsRow B 29 3 s.tv td.length (td.flatMap vcs)
  lk : w.ownsRow B 55 2 s.lv lk.length (lk.flatMap lcs)
  wv : s.wv = .map (some M)
  mg : ∃ es c, MG KS w M kv es c
  gm : B ≤ M
theorem owns_blk {w : World} {B : Nat} {e : TypeId} {m : Nat} {v : Value} {n : Nat} {xs : List Value} (h : w.ownsRow B e m v n xs) {k : Nat} (hk : v.ownBlock = some k) {o : Obj} (ho : w.heap[k]? = some o) (hn : ∀ cs, o ≠ .cells cs e (0, 0)) : False := by
  obtain ⟨c1, h1⟩ := owns_ty h hk
  rw [h1] at ho
  injection ho with ho
  exact hn _ ho.symm
section
variable {w w' : World} {B mb M : Nat} {s : Ms} {td : List Vd} {lk : List (ByteArray × ByteArray)} {kv : List (ByteArray × Value)}
theorem MX.below (h : MX w B mb s td lk M kv) (hb : Below w.heap.size w w') : MX w' B mb s td lk M kv :=
  ⟨h.m.below hb, h.ge, ownsRow_kept h.td (Kept.ofBelow hb) (fun _ _ e => e), ownsRow_kept h.lk (Kept.ofBelow hb) (fun _ _ e => e), h.wv, by obtain ⟨es, c, g⟩ := h.mg; exact ⟨es, c, g.below hb⟩, h.gm⟩
theorem MX.own (h : MX w B mb s td lk M kv) {s' : Ms} (hm : Mb w' mb s') (hk : Kept (fun k => k = mb) w w') (e1 : s'.tv = s.tv) (e2 : s'.lv = s.lv) (e3 : s'.wv = s.wv) : MX w' B mb s' td lk M kv := by
  obtain ⟨cs, hb, -⟩ := h.m.ex
  refine ⟨hm, h.ge, ?_, ?_, e3.trans h.wv, ?_, h.gm⟩
  · rw [e1]
    exact ownsRow_kept h.td hk (fun k e e2 => owns_blk h.td (k := mb) (o := .cells cs 77 (0, 0)) (by rw [← e2]; exact e) hb (fun cs e => by injection e with _ e; cases e))
  · rw [e2]
    exact ownsRow_kept h.lk hk (fun k e e2 => owns_blk h.lk (k := mb) (o := .cells cs 77 (0, 0)) (by rw [← e2]; exact e) hb (fun cs e => by injection e with _ e; cases e))
  · obtain ⟨es, c, g⟩ := h.mg
    exact ⟨es, c, g.kept hk (fun e => by have h1 := g.blk; rw [e, hb] at h1; cases h1)⟩
def Sx (s : Ms) (mb M : Nat) (k : Nat) : Prop := k = mb ∨ k = M ∨ s.tv.ownBlock = some k ∨ s.lv.ownBlock = some k
theorem MX.keptB (h : MX w B mb s td lk M kv) (hk : Kept (Sx s mb M) w w') : Below B w w' := hk.below (Nat.le_trans h.ge (Nat.le_of_lt h.m.lt)) (fun k hk e => by
  rcases e with e | e | e | e
  · have := h.ge; omega
  · have := h.gm; omega
  · have := (h.td.lt k e).1; omega
  · have := (h.lk.lt k e).1; omega)
theorem ksx {S : Nat → Prop} (hk : Kept S w w') (hS : ∀ k, S k → Sx s mb M k) : Kept (Sx s mb M) w w' := hk.mono (fun k _ e => hS k e)
theorem bsx (hb : Below w.heap.size w w') : Kept (Sx s mb M) w w' := (Kept.ofBelow hb).mono (fun _ _ e => e.elim)
def Did (B : Nat) (w : World) (mb : Nat) (s s' : Ms) (td : List Vd) (lk : List (ByteArray × ByteArray)) (M : Nat) (kv : List (ByteArray × Value)) (e : Ending) (w' : World) : Prop := e = .returned (.tuple #[]) ∧ MX w' B mb s' td lk M kv ∧ Kept (Sx s mb M) w w'
abbrev gu (st : Int) : Ending := .panicked [{ v := .iface 105 (.agg #[.int .i64 st]), recovered := false }]
def Gave (B : Nat) (w : World) (mb : Nat) (s : Ms) (td : List Vd) (lk : List (ByteArray × ByteArray)) (M : Nat) (kv : List (ByteArray × Value)) (st : Int) (e : Ending) (w' : World) : Prop := e = gu st ∧ MX w' B mb s td lk M kv ∧ Kept (Sx s mb M) w w'
theorem MX.bB (h : MX w B mb s td lk M kv) : B ≤ w.heap.size := Nat.le_trans h.ge (Nat.le_of_lt h.m.lt)
theorem did_set (h : MX w B mb s td lk M kv) (a : Nat) (ha : a < 16) (v : Vd) (o : Obj) : Did B w mb s (s.set a v) td lk M kv (.returned (.tuple #[])) ((((w.setCell ⟨mb, 3 + a * 3, none⟩ (.int .i64 v.k)).setCell ⟨mb, 3 + a * 3 + 1, none⟩ (.int .i64 v.i)).setCell ⟨mb, 3 + a * 3 + 2, none⟩ (.string v.t)).alloc o).drew := by
  have h1 := h.m.setReg a (by omega) (by omega) v
  rw [Int.toNat_natCast] at h1
  have hk : Kept (fun k => k = mb) w (((w.setCell ⟨mb, 3 + a * 3, none⟩ (.int .i64 v.k)).setCell ⟨mb, 3 + a * 3 + 1, none⟩ (.int .i64 v.i)).setCell ⟨mb, 3 + a * 3 + 2, none⟩ (.string v.t)) :=
    (((Kept.refl (fun k => k = mb) w).setCell (p := ⟨mb, 3 + a * 3, none⟩) (fun _ => rfl) _).setCell (p := ⟨mb, 3 + a * 3 + 1, none⟩) (fun _ => rfl) _).setCell (p := ⟨mb, 3 + a * 3 + 2, none⟩) (fun _ => rfl) _
  have hx := (h.own h1 hk rfl rfl rfl).below (((Below.refl _ _).alloc (Nat.le_refl _) o).drew)
  exact ⟨rfl, hx, ksx ((hk.alloc o).drew) (fun k e => .inl e)⟩
set_option maxHeartbeats 1600000 in
theorem arg_any (x : Ins) (v : Vd) (l : List Vd) (h : MX w B mb s td lk M kv) (ha : Va w s.av l) (h0 : 0 ≤ x.a) (h1 : x.a < 16) (hn : 0 ≤ x.n) (hv : l[x.n.toNat]? = some v) :
    Calls Tryz.prog 64 #[.pointer (some ⟨mb, 0, none⟩), x.val] w (Did B w mb s (s.set x.a v) td lk M kv) := by
  obtain ⟨ao, cap, hav, hcap, hl⟩ := ha
  have hlt := (List.getElem?_eq_some_iff.1 hv).1
  obtain ⟨b, off, rfl, hc⟩ := hl (fun e => by rw [e] at hlt; simp at hlt)
  obtain ⟨d0, d1, d2⟩ := hc _ _ hv
  obtain ⟨-, c1, -⟩ := h.m.cells
  rw [hav] at c1
  obtain ⟨op, a, bb, cc, n, vk, vi, vt⟩ := x
  dsimp only at h0 h1 hn hv hlt d0 d1 d2 ⊢
  obtain ⟨a, rfl⟩ := Int.eq_ofNat_of_zero_le h0
  obtain ⟨n, rfl⟩ := Int.eq_ofNat_of_zero_le hn
  rw [Int.toNat_natCast] at hlt d0 d1 d2
  have hn1 : (n : Int) < (l.length : Int) := by omega
  have ha2 : a < 16 := by omega
  have hbl := World.block_lt_of_cell? _ _ d0
  have hml := h.m.lt
  dsimp only at hbl
  obtain ⟨r0, r1, r2⟩ := h.m.reg a h0 h1
  rw [Int.toNat_natCast] at r0 r1 r2
  have hfz := h.m.free
  have HM := hid h
  clear hc h hl hv
  unfold Ins.val
  go_enter Tryz.func64, Tryz.ntmps64
  go_wp2_with fail
  go_region
  all_goals
    go_end0
    exact did_set HM.out a ha2 v _
set_option maxHeartbeats 1600000 in
theorem holds_m (x : Ins) (h : MX w B mb s td lk M kv) (b0 : 0 ≤ x.b) (b1 : x.b < 16) (c0 : 0 ≤ x.c) (c1 : x.c < 16) :
    Calls Tryz.prog 99 #[.pointer (some ⟨mb, 0, none⟩), x.val] w fun e w' => e = .returned (.bool (holdsB x.n (cmpV (s.rg x.b).k (s.rg x.b).i (s.rg x.b).t (s.rg x.c).k (s.rg x.c).i (s.rg x.c).t))) ∧ Below w.heap.size w w' := by
  obtain ⟨op, a, b, c, n, vk, vi, vt⟩ := x
  dsimp only at b0 b1 c0 c1 ⊢
  obtain ⟨b, rfl⟩ := Int.eq_ofNat_of_zero_le b0
  obtain ⟨c, rfl⟩ := Int.eq_ofNat_of_zero_le c0
  have hml := h.m.lt
  have hm1 := h.m.below (((Below.refl _ w).alloc (Nat.le_refl _) (io op a b c n vk vi vt)).drew)
  obtain ⟨r0, r1, r2⟩ := hm1.reg b b0 b1
  obtain ⟨q0, q1, q2⟩ := hm1.reg c c0 c1
  rw [Int.toNat_natCast] at r0 r1 r2 q0 q1 q2
  obtain ⟨-, -, y2, y3, y4, -⟩ := cells8 (w := (w.alloc (io op a b c n vk vi vt)).drew) (hp_new w (io op a b c n vk vi vt))
  have HB := hid (show Below w.heap.size w (w.alloc (io op a b c n vk vi vt)).drew from ((Below.refl _ w).alloc (Nat.le_refl _) _).drew)
  have HS := hid (And.intro y2 (And.intro y3 (And.intro y4 (And.intro r0 (And.intro r1 (And.intro r2 (And.intro q0 (And.intro q1 q2))))))))
  clear h hm1 r0 r1 r2 q0 q1 q2 y2 y3 y4
  unfold Ins.val
  go_enter Tryz.func99, Tryz.ntmps99
  go_wp2_with fail
  go_region_held3 (fun wx => wx.cell? ⟨w.heap.size, 2, none⟩ = some (.int .i64 b) ∧ wx.cell? ⟨w.heap.size, 3, none⟩ = some (.int .i64 c) ∧ wx.cell? ⟨w.heap.size, 4, none⟩ = some (.int .i64 n) ∧ wx.cell? ⟨mb, 3 + b * 3, none⟩ = some (.int .i64 (s.rg b).k) ∧ wx.cell? ⟨mb, 3 + b * 3 + 1, none⟩ = some (.int .i64 (s.rg b).i) ∧ wx.cell? ⟨mb, 3 + b * 3 + 2, none⟩ = some (.string (s.rg b).t) ∧ wx.cell? ⟨mb, 3 + c * 3, none⟩ = some (.int .i64 (s.rg c).k) ∧ wx.cell? ⟨mb, 3 + c * 3 + 1, none⟩ = some (.int .i64 (s.rg c).i) ∧ wx.cell? ⟨mb, 3 + c * 3 + 2, none⟩ = some (.string (s.rg c).t))
    (first | exact HS.out | exact HS2.out)
    (first
    | (go_at_call 127
       refine (holds_any n _ _ _ _ _ _ _).mono ?_
       rintro e w2 ⟨rfl, hb2⟩
       have HB2 := hid (below_on HB.out hb2)
       have HS2 := hid (show _ ∧ _ ∧ _ ∧ _ ∧ _ ∧ _ ∧ _ ∧ _ ∧ _ from ⟨(hb2.cell (World.block_lt_of_cell? _ _ HS.out.1)).trans HS.out.1, (hb2.cell (World.block_lt_of_cell? _ _ HS.out.2.1)).trans HS.out.2.1, (hb2.cell (World.block_lt_of_cell? _ _ HS.out.2.2.1)).trans HS.out.2.2.1, (hb2.cell (World.block_lt_of_cell? _ _ HS.out.2.2.2.1)).trans HS.out.2.2.2.1, (hb2.cell (World.block_lt_of_cell? _ _ HS.out.2.2.2.2.1)).trans HS.out.2.2.2.2.1, (hb2.cell (World.block_lt_of_cell? _ _ HS.out.2.2.2.2.2.1)).trans HS.out.2.2.2.2.2.1, (hb2.cell (World.block_lt_of_cell? _ _ HS.out.2.2.2.2.2.2.1)).trans HS.out.2.2.2.2.2.2.1, (hb2.cell (World.block_lt_of_cell? _ _ HS.out.2.2.2.2.2.2.2.1)).trans HS.out.2.2.2.2.2.2.2.1, (hb2.cell (World.block_lt_of_cell? _ _ HS.out.2.2.2.2.2.2.2.2)).trans HS.out.2.2.2.2.2.2.2.2⟩)
       clear hb2))
  all_goals
    go_wp2
    go_ret
    exact ⟨rfl, HB2.out⟩
theorem gaveup (st : Int) (w : World) : Calls Tryz.prog 100 #[.int .i64 st] w fun e w' => e = gu st ∧ w' = w := by
  go_enter Tryz.func100, Tryz.ntmps100
  go_wp2
  exact ⟨rfl, rfl, rfl⟩
end
end Go.Proofs.YthcoigbkdbkojabGreat
