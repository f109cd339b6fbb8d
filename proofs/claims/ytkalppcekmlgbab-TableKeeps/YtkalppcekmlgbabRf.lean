import Derived.Test.YtkalppcekmlgbabBase
import Derived.ProofKit
import Derived.OpenShut
import Derived.Deep.Slices
import Derived.ArgAppend
namespace Go.Proofs.Ytkalppcekmlgbab
open Go.RowKit

theorem add_lit (b off j : Nat) : (⟨b, off, none⟩ : Addr).add j = ⟨b, off + j, none⟩ := by
  unfold Addr.add; split <;> simp_all
theorem owns_block {w : World} {B : Nat} {e : TypeId} {size : Nat} {v : Value} {n : Nat} {xs : List Value} (h : w.ownsRow B e size v n xs) : ∀ k, v.ownBlock = some k → ∃ cs, w.heap[k]? = some (.cells cs e (0, 0)) := by
  intro k hk
  rcases h.2 with ⟨rfl, _⟩ | ⟨g, cap, cur, rfl, hb, hg, _⟩
  · simp [Value.ownBlock] at hk
  · simp [Value.ownBlock] at hk
    subst hk
    exact ⟨_, hg⟩
theorem own_ne_blk {w : World} {B : Nat} {e : TypeId} {s : Nat} {v : Value} {n : Nat} {xs : List Value} (h : w.ownsRow B e s v n xs) {k : Nat} {cs : Array Value} {t : TypeId} {fr : Nat × Nat} (hb : w.heap[k]? = some (.cells cs t fr)) (hne : e ≠ t) : v.ownBlock ≠ some k := by
  intro h1
  obtain ⟨cs', a⟩ := owns_block h k h1
  rw [a] at hb
  injection hb with b
  injection b with b1 b2
  exact hne b2
theorem own_shape {w : World} {B : Nat} {e : TypeId} {size : Nat} {v : Value} {n : Nat} {xs : List Value} (h : w.ownsRow B e size v n xs) : ∃ ao c, v = .slice ao n c := by
  rcases h.2 with ⟨e1, e2⟩ | ⟨g, cap, cur, e1, _⟩
  · exact ⟨none, 0, by rw [e1, e2]⟩
  · exact ⟨_, _, e1⟩

/-- v is a slice of n elements of m cells each, and these are its cells. -/
def Rf (w : World) (m : Nat) (v : Value) (n : Nat) (cs : List Value) : Prop :=
  cs.length = n * m ∧ (∀ u ∈ cs, u.oneCell' = true) ∧ ((v = .slice none 0 0 ∧ n = 0) ∨ ∃ a cap, v = .slice (some a) n cap ∧ n ≤ cap ∧ cap ≤ maxLen ∧ ∀ j u, cs[j]? = some u → w.cell? (a.add j) = some u)

theorem rf_nil (w : World) (m : Nat) : Rf w m (.slice none 0 0) 0 [] := ⟨by simp, (fun _ h => nomatch h), .inl ⟨rfl, rfl⟩⟩

theorem Rf.shape {w : World} {m : Nat} {v : Value} {n : Nat} {cs : List Value} (h : Rf w m v n cs) : ∃ ao cap, v = .slice ao n cap ∧ n ≤ cap ∧ cap ≤ maxLen := by
  rcases h.2.2 with ⟨rfl, rfl⟩ | ⟨a, cap, rfl, h1, h2, _⟩
  · exact ⟨none, 0, rfl, Nat.le_refl _, by simp [maxLen]⟩
  · exact ⟨_, _, rfl, h1, h2⟩

theorem Rf.lits {w : World} {m : Nat} {v : Value} {n : Nat} {cs : List Value} (h : Rf w m v n cs) (h0 : 0 < n) (hm : 0 < m) : ∃ b off cap, v = .slice (some ⟨b, off, none⟩) n cap ∧ n ≤ cap ∧ cap ≤ maxLen ∧ ∀ j u, cs[j]? = some u → w.cell? ⟨b, off + j, none⟩ = some u := by
  obtain ⟨hl, -, h2⟩ := h
  rcases h2 with ⟨rfl, rfl⟩ | ⟨a, cap, rfl, h3, h5, h4⟩
  · omega
  · obtain ⟨b, off, spot⟩ := a
    have hpos : 0 < cs.length := by rw [hl]; exact Nat.mul_pos h0 hm
    have c0 := h4 0 cs[0] (by simp [hpos])
    have hspot : spot = none := by simpa [Addr.add] using World.cell?_spot c0
    subst hspot
    refine ⟨b, off, cap, rfl, h3, h5, fun j u hu => ?_⟩
    have := h4 j u hu
    rwa [add_lit] at this

theorem Rf.kept {w w' : World} {m : Nat} {v : Value} {n : Nat} {cs : List Value} {S : Nat → Prop} (h : Rf w m v n cs) (hk : Kept S w w') (hn : ∀ k, v.ownBlock = some k → ¬ S k) : Rf w' m v n cs := by
  obtain ⟨h0, h1, h2⟩ := h
  refine ⟨h0, h1, ?_⟩
  rcases h2 with h2 | ⟨a, cap, rfl, h3, h5, h4⟩
  · exact .inl h2
  · refine .inr ⟨a, cap, rfl, h3, h5, fun j u hu => hk.cell (h4 j u hu) ?_⟩
    have e : (a.add j).block = a.block := by unfold Addr.add; split <;> rfl
    rw [e]
    exact hn _ rfl

theorem Rf.below {w w' : World} {m : Nat} {v : Value} {n : Nat} {cs : List Value} (h : Rf w m v n cs) (hk : Below w.heap.size w w') : Rf w' m v n cs := h.kept (Kept.ofBelow hk) (fun _ _ h => h)

theorem rf_of_owns {w : World} {B : Nat} {e : TypeId} {m : Nat} {v : Value} {n : Nat} {xs : List Value} (h : w.ownsRow B e m v n xs) (h1 : ∀ u ∈ xs, u.oneCell' = true) : Rf w m v n xs := by
  refine ⟨h.1, h1, ?_⟩
  rcases h.2 with h0 | ⟨g, cap, cur, rfl, hb, hg, hc, hm, hs, ht⟩
  · exact .inl h0
  · refine .inr ⟨_, cap, rfl, hc, hm, fun j u hu => ?_⟩
    exact h.cells (g := g) rfl j u hu

/-- Any row onto an owned one. -/
theorem append_rf (w : World) (ty : TypeId) (B : Nat) (t e : TypeId) (z : Value) (m bytes : Nat) (ht : Try.prog.underlying t = some (.slice e)) (hinfo : (Try.prog.info? e).map (fun i => (i.zero, i.size, i.bytes)) = some (some z, m, bytes)) (hzs : z.cells.size = m) (hm : 0 < m)
    (v : Value) (n : Nat) (xs : List Value) (hown : w.ownsRow B e m v n xs) (sv : Value) (k : Nat) (ys : List Value) (hs : Rf w m sv k ys) (hl : (n + k) * bytes ≤ 140737488355328) (hl2 : n + k ≤ maxLen) (hbase : B ≤ w.heap.size) :
    ∃ v' w', (Builtin.append_ #[t, t] ty #[v, sv]).run Try.prog w = .ok v' w' ∧ w'.ownsRow B e m v' (n + k) (xs ++ ys) ∧ w.grownBy w' v.ownBlock ∧ (v'.ownBlock = v.ownBlock ∨ v'.ownBlock = some w.heap.size) := by
  obtain ⟨i0, hi, hz0, hz1, hz2⟩ := info_parts hinfo
  obtain ⟨h0, h1, h2⟩ := hs
  rcases h2 with ⟨rfl, rfl⟩ | ⟨a, cap, rfl, h3, h5, h4⟩
  · have hy : ys = [] := List.eq_nil_of_length_eq_zero (by simpa using h0)
    subst hy
    exact ⟨v, w, run_append_owned_none (P := Try.prog) (w := w) B t ty e i0 m ht hi v n xs hown, by simpa using hown, ⟨rfl, rfl, rfl, Nat.le_refl _, fun _ _ _ => rfl⟩, .inl rfl⟩
  · obtain ⟨v', w', hr, q1, q2, _, q4⟩ := run_append_own_at (P := Try.prog) w B t ty e i0 z m bytes ht hi hz0 hz1 hz2 hzs hm v n xs hown a k cap ys h0 h4 h1 hl2 hl hbase
    exact ⟨v', w', hr, q1, q2, q4⟩

theorem wpList_append_rf (w : World) {ops : Array Oper} {rest : List Oper} {o : Oper} {a : Act} {Q : Exit → Act → World → Prop} (hgd : o.guard = none) (s x : Operand) (t e : TypeId) (z : Value) (m bytes : Nat)
    (ho : o.op = .call { callee := .builtin .append, args := #[s, x], argTypes := #[t, t] }) (ht : Try.prog.underlying t = some (.slice e)) (hinfo : (Try.prog.info? e).map (fun i => (i.zero, i.size, i.bytes)) = some (some z, m, bytes)) (hzs : z.cells.size = m) (hm : 0 < m)
    (B : Nat) (v : Value) (n : Nat) (xs : List Value) (hs : a.eval s = v) (hown : w.ownsRow B e m v n xs)
    (sv : Value) (k : Nat) (ys : List Value) (hx : a.eval x = sv) (hsn : Rf w m sv k ys) (hl : (n + k) * bytes ≤ 140737488355328) (hl2 : n + k ≤ maxLen) (hbase : B ≤ w.heap.size)
    (h : ∀ ao c w', Hid (w'.ownsRow B e m (.slice ao (n + k) c) (n + k) (xs ++ ys)) → Hid (w.grownBy w' v.ownBlock) → Hid ((Value.slice ao (n + k) c).ownBlock = v.ownBlock ∨ (Value.slice ao (n + k) c).ownBlock = some w.heap.size) → wpList Try.prog ops Q rest (a.put o.dst (.slice ao (n + k) c)) w') : wpList Try.prog ops Q (o :: rest) a w := by
  refine wpList_plain hgd fun K hK => ?_
  obtain ⟨v', w', hr, h2, h3, h4⟩ := append_rf w o.type B t e z m bytes ht hinfo hzs hm v n xs hown sv k ys hsn hl hl2 hbase
  obtain ⟨ao, c, rfl⟩ := own_shape h2
  unfold Oper.wp execOp
  simp only [ho, resolve, invoke, builtin, Sem.run_bind, Sem.run_pure, Result.andThen_ok, List.map_toArray, List.map_cons, List.map_nil, hs, hx, hr]
  exact hK _ _ (h ao c w' (hid h2) (hid h3) (hid h4))

theorem step_append_rf (w : World) {ops : Array Oper} {o : Oper} {a : Act} {K : Act → World → Prop} {Q : Exit → Act → World → Prop} {E : Prop} (hgd : o.guard = none) (s x : Operand) (t e : TypeId) (z : Value) (m bytes : Nat)
    (ho : o.op = .call { callee := .builtin .append, args := #[s, x], argTypes := #[t, t] }) (ht : Try.prog.underlying t = some (.slice e)) (hinfo : (Try.prog.info? e).map (fun i => (i.zero, i.size, i.bytes)) = some (some z, m, bytes)) (hzs : z.cells.size = m) (hm : 0 < m)
    (B : Nat) (v : Value) (n : Nat) (xs : List Value) (hs : a.eval s = v) (hown : w.ownsRow B e m v n xs)
    (sv : Value) (k : Nat) (ys : List Value) (hx : a.eval x = sv) (hsn : Rf w m sv k ys) (hl : (n + k) * bytes ≤ 140737488355328) (hl2 : n + k ≤ maxLen) (hbase : B ≤ w.heap.size)
    (h : ∀ ao c w', Hid (w'.ownsRow B e m (.slice ao (n + k) c) (n + k) (xs ++ ys)) → Hid (w.grownBy w' v.ownBlock) → Hid ((Value.slice ao (n + k) c).ownBlock = v.ownBlock ∨ (Value.slice ao (n + k) c).ownBlock = some w.heap.size) → K (a.put o.dst (.slice ao (n + k) c)) w') :
    if Region.wanted o (yielded ops a.tmps) = true then Oper.wp Try.prog o a w K Q else E := by
  have hw : Region.wanted o (yielded ops a.tmps) = true := by simp [Region.wanted, hgd]
  rw [if_pos hw]
  obtain ⟨v', w', hr, h2, h3, h4⟩ := append_rf w o.type B t e z m bytes ht hinfo hzs hm v n xs hown sv k ys hsn hl hl2 hbase
  obtain ⟨ao, c, rfl⟩ := own_shape h2
  unfold Oper.wp execOp
  simp only [ho, resolve, invoke, builtin, Sem.run_bind, Sem.run_pure, Result.andThen_ok, List.map_toArray, List.map_cons, List.map_nil, hs, hx, hr]
  exact h ao c w' (hid h2) (hid h3) (hid h4)

/-- The cells of one element of a flat row. -/
theorem flat_get {α : Type} (f : α → List Value) (m : Nat) (hf : ∀ x, (f x).length = m) : ∀ (xs : List α) (k c : Nat), c < m → (xs.flatMap f)[k * m + c]? = (xs[k]?).bind (fun x => (f x)[c]?)
  | [], k, c, _ => by simp
  | x :: xs, 0, c, h => by simp [List.getElem?_append_left, hf, h]
  | x :: xs, k + 1, c, h => by
    have ih := flat_get f m hf xs k c h
    rw [List.flatMap_cons, List.getElem?_append_right (by rw [hf, Nat.succ_mul]; omega), hf]
    have e : (k + 1) * m + c - m = k * m + c := by rw [Nat.succ_mul]; omega
    rw [e, ih]
    simp

theorem flat_len {α : Type} (f : α → List Value) (m : Nat) (hf : ∀ x, (f x).length = m) : ∀ xs : List α, (xs.flatMap f).length = xs.length * m
  | [] => by simp
  | x :: xs => by rw [List.flatMap_cons, List.length_append, hf, flat_len f m hf xs, List.length_cons, Nat.succ_mul]; omega

theorem add_add (a : Addr) (x y : Nat) : (a.add x).add y = a.add (x + y) := by
  unfold Addr.add
  by_cases hx : x = 0
  · subst hx; simp
  · by_cases hy : y = 0
    · subst hy; simp
    · simp [hx, hy, Nat.add_assoc]

/-- A slice whose elements are read, element by element. -/
theorem rf_of_trod {H : Type} {enc : TypeId × Value → H} {W : World} {base : Nat} {held : Bool} {fuel : Nat} {t e : TypeId} {cs : List Value} {x : DataW H × List MemPlace} {α : Type} [Inhabited α] (f : α → List Value) (p : α → Prop) (m : Nat) (hf : ∀ y, (f y).length = m) (h1 : ∀ y, ∀ u ∈ f y, u.oneCell' = true)
    (ht : Try.prog.underlying t = some (.slice e)) (hm : Try.prog.cellsOf e = m) (hel : ∀ n cs' x', DataW.trod enc Try.prog W base (fun _ => true) held n e cs' = some x' → ∃ y : α, p y ∧ cs' = f y)
    (h : DataW.trod enc Try.prog W base (fun _ => true) held fuel t cs = some x) : ∃ (v : Value) (ys : List α), cs = [v] ∧ Rf W m v ys.length (ys.flatMap f) ∧ ∀ y ∈ ys, p y := by
  rcases Go.Deep.open_slice ht h with ⟨rfl, _⟩ | ⟨a, len, cap, mm, n, D, Pl, rfl, _, hl, hcm, hmm, _, hx⟩
  · exact ⟨_, [], rfl, rf_nil W m, (fun _ h => nomatch h)⟩
  · simp only [if_true] at hmm
    subst hmm
    rw [hm] at hx
    have key : ∀ i, i < len → ∃ y : α, p y ∧ ∀ c, c < m → W.cell? ((a.add (i * m)).add c) = (f y)[c]? := by
      intro i hi
      obtain ⟨cs', q1, q2⟩ := hx i (by omega)
      obtain ⟨y, hy, rfl⟩ := hel _ _ _ q2
      exact ⟨y, hy, fun c hc => (World.cells?_some q1).2.2 c hc⟩
    obtain ⟨F, hF⟩ := Go.Deep.choose_lt key
    refine ⟨_, (List.range len).map F, rfl, ⟨flat_len f m hf _, ?_, .inr ⟨a, mm, by simp, by simpa using hl, hcm, ?_⟩⟩, ?_⟩
    · intro u hu
      obtain ⟨y, _, hy⟩ := List.mem_flatMap.1 hu
      exact h1 y u hy
    · intro j u hu
      have hmp : 0 < m := by
        rcases Nat.eq_zero_or_pos m with h0 | h0
        · have hz := flat_len f m hf ((List.range len).map F)
          rw [h0, Nat.mul_zero] at hz
          rw [List.eq_nil_of_length_eq_zero hz] at hu
          simp at hu
        · exact h0
      have hj : j = j / m * m + j % m := by rw [Nat.mul_comm]; exact (Nat.div_add_mod j m).symm
      have hc : j % m < m := Nat.mod_lt _ hmp
      rw [hj, flat_get f m hf _ _ _ hc] at hu
      rw [List.getElem?_map] at hu
      have hlt : j / m < len := by
        rcases Nat.lt_or_ge (j / m) len with h | h
        · exact h
        · rw [List.getElem?_eq_none (by simpa using h)] at hu
          simp at hu
      simp [hlt] at hu
      have := (hF (j / m) hlt).2 (j % m) hc
      rw [hu, add_add, ← hj] at this
      exact this
    · intro y hy
      simp at hy
      obtain ⟨i, hi, rfl⟩ := hy
      exact (hF i hi).1

end Go.Proofs.Ytkalppcekmlgbab

