import Derived.Test.YtljfmbjibjoiiabK05
import Derived.Test.YtljfmbjibjoiiabK01
import Derived.Laws.AppendOwnNone
import Derived.ProofKit
import Derived.OpenShut
import Derived.Deep.Slices
import Derived.Test.YtljfmbjibjoiiabK12
import Derived.Test.YtljfmbjibjoiiabK11
import Derived.Deep.Cut
namespace Go.Proofs.Ytljfmbjibjoiiab
open Go.RowKit

/-- A slice of bytes, nil or with an address. -/
def Sn (w : World) (v : Value) (bs : List Int) : Prop := Sl w v bs ∧ (v = .slice none 0 0 ∨ ∃ a n c, v = .slice (some a) n c)

theorem sn_nil (w : World) : Sn w (.slice none 0 0) [] := ⟨⟨none, 0, rfl, Nat.le_refl _, fun h => absurd rfl h⟩, .inl rfl⟩

theorem sn_of_owns {w : World} {B : Nat} {v : Value} {bs : List Int} {n : Nat} (h : w.ownsRow B 5 1 v n (B8 bs)) : Sn w v bs := by
  refine ⟨sl_of_owns h, ?_⟩
  rcases h.2 with ⟨rfl, _⟩ | ⟨g, cap, cur, rfl, _⟩
  · exact .inl rfl
  · exact .inr ⟨_, _, _, rfl⟩

theorem Sn.kept {w w' : World} {v : Value} {bs : List Int} {S : Nat → Prop} (h : Sn w v bs) (hk : Kept S w w') (hn : ∀ k, v.ownBlock = some k → ¬ S k) : Sn w' v bs := ⟨h.1.kept hk hn, h.2⟩
theorem Sn.below {w w' : World} {v : Value} {bs : List Int} (h : Sn w v bs) (hk : Below w.heap.size w w') : Sn w' v bs := ⟨h.1.below hk, h.2⟩
theorem Sn.alloc {w : World} {v : Value} {bs : List Int} (h : Sn w v bs) (o : Obj) : Sn (w.alloc o) v bs := h.below ((Below.refl _ _).alloc (Nat.le_refl _) o)

set_option maxRecDepth 100000 in
theorem append_sn (w : World) (ty : TypeId) (B : Nat) (v : Value) (n : Nat) (xs : List Int) (hown : w.ownsRow B 5 1 v n (B8 xs)) (sv : Value) (ys : List Int) (hsn : Sn w sv ys) (hl : n + ys.length ≤ 100000000000) (hbase : B ≤ w.heap.size) :
    ∃ v' w', (Builtin.append_ #[30, 30] ty #[v, sv]).run Try.prog w = .ok v' w' ∧ w'.ownsRow B 5 1 v' (n + ys.length) (B8 (xs ++ ys)) ∧ w.grownBy w' v.ownBlock ∧ (v'.ownBlock = v.ownBlock ∨ v'.ownBlock = some w.heap.size) := by
  obtain ⟨i0, hi, hz0, hz1, hz2⟩ := info_parts Try.info5
  obtain ⟨⟨ao, cap, rfl, hc, hx⟩, hsh⟩ := hsn
  rcases hsh with hsh | ⟨a, m, c, hsh⟩
  · injection hsh with h1 h2 h3
    have hy : ys = [] := List.eq_nil_of_length_eq_zero h2
    subst hy
    subst h1 h3
    refine ⟨v, w, run_append_owned_none (P := Try.prog) (w := w) B 30 ty 5 i0 1 Try.underlying30 hi v n (B8 xs) hown, by simpa using hown, ⟨rfl, rfl, rfl, Nat.le_refl _, fun _ _ _ => rfl⟩, .inl rfl⟩
  · injection hsh with h1 h2 h3
    subst h1 h2 h3
    obtain ⟨v', w', hr, q1, q2, _, q4⟩ := run_append_own_at (P := Try.prog) w B 30 ty 5 i0 (.int .u8 0) 1 1 Try.underlying30 hi hz0 hz1 hz2 rfl (by omega) v n (B8 xs) hown a ys.length cap (B8 ys) (by simp) (by
      intro j u hu
      rw [List.getElem?_map, Option.map_eq_some_iff] at hu
      obtain ⟨y, hy, rfl⟩ := hu
      obtain ⟨b, off, e, hj⟩ := hx (by intro e; subst e; simp at hy)
      injection e with e
      subst e
      rw [add_lit]
      exact hj j y hy) (by intro u hu; obtain ⟨_, _, rfl⟩ := List.mem_map.1 hu; rfl) (by unfold maxLen; omega) (by omega) hbase
    exact ⟨v', w', hr, by simpa using q1, q2, q4⟩

theorem wpList_append_sn (w : World) {ops : Array Oper} {rest : List Oper} {o : Oper} {a : Act} {Q : Exit → Act → World → Prop} (hgd : o.guard = none) (s x : Operand)
    (ho : o.op = .call { callee := .builtin .append, args := #[s, x], argTypes := #[30, 30] }) (B : Nat) (v : Value) (n : Nat) (xs : List Int) (hs : a.eval s = v) (hown : w.ownsRow B 5 1 v n (B8 xs))
    (sv : Value) (ys : List Int) (hx : a.eval x = sv) (hsn : Sn w sv ys) (hl : n + ys.length ≤ 100000000000) (hbase : B ≤ w.heap.size)
    (h : ∀ ao c w', w'.ownsRow B 5 1 (.slice ao (n + ys.length) c) (n + ys.length) (B8 (xs ++ ys)) → w.grownBy w' v.ownBlock → wpList Try.prog ops Q rest (a.put o.dst (.slice ao (n + ys.length) c)) w') : wpList Try.prog ops Q (o :: rest) a w := by
  refine wpList_plain hgd fun K hK => ?_
  obtain ⟨v', w', hr, h2, h3, _⟩ := append_sn w o.type B v n xs hown sv ys hsn hl hbase
  obtain ⟨ao, c, rfl⟩ : ∃ ao c, v' = .slice ao (n + ys.length) c := by
    rcases h2.2 with ⟨e1, e2⟩ | ⟨g, cap, cur, e1, _⟩
    · exact ⟨none, 0, by rw [e1, e2]⟩
    · exact ⟨_, _, e1⟩
  unfold Oper.wp execOp
  simp only [ho, resolve, invoke, builtin, Sem.run_bind, Sem.run_pure, Result.andThen_ok, List.map_toArray, List.map_cons, List.map_nil, hs, hx, hr]
  exact hK _ _ (h ao c w' h2 h3)

end Go.Proofs.Ytljfmbjibjoiiab

namespace Go.Proofs.Ytljfmbjibjoiiab
open Go.RowKit

/-- v is a slice of n elements of m cells each, and these are its cells. -/
def Rf (w : World) (m : Nat) (v : Value) (n : Nat) (cs : List Value) : Prop :=
  cs.length = n * m ∧ (∀ u ∈ cs, u.oneCell' = true) ∧ ((v = .slice none 0 0 ∧ n = 0) ∨ ∃ a cap, v = .slice (some a) n cap ∧ n ≤ cap ∧ cap ≤ maxLen ∧ ∀ j u, cs[j]? = some u → w.cell? (a.add j) = some u)

theorem rf_nil (w : World) (m : Nat) : Rf w m (.slice none 0 0) 0 [] := ⟨by simp, (fun _ h => nomatch h), .inl ⟨rfl, rfl⟩⟩

theorem Rf.shape {w : World} {m : Nat} {v : Value} {n : Nat} {cs : List Value} (h : Rf w m v n cs) : ∃ ao cap, v = .slice ao n cap ∧ n ≤ cap ∧ cap ≤ maxLen := by
  rcases h.2.2 with ⟨rfl, rfl⟩ | ⟨a, cap, rfl, h1, h2, _⟩
  · exact ⟨none, 0, rfl, Nat.le_refl _, by simp [maxLen]⟩
  · exact ⟨_, _, rfl, h1, h2⟩

theorem Rf.lits {w : World} {m : Nat} {v : Value} {n : Nat} {cs : List Value} (h : Rf w m v n cs) (h0 : 0 < n) (hm : 0 < m) : ∃ b off cap, v = .slice (some ⟨b, off, none⟩) n cap ∧ n ≤ cap ∧ cap ≤ maxLen ∧ ∀ j u, cs[j]? = some u → w.cell? ⟨b, off + j, none⟩ = some u := by
  obtain ⟨hl, -, h2⟩ := h
  rcases h2 with ⟨rfl, rfl⟩ | ⟨a, cap, rfl, h3, h5, h4⟩
  · omega
  · obtain ⟨b, off, spot⟩ := a
    have hpos : 0 < cs.length := by rw [hl]; exact Nat.mul_pos h0 hm
    have c0 := h4 0 cs[0] (by simp [hpos])
    have hspot : spot = none := by simpa [Addr.add] using World.cell?_spot c0
    subst hspot
    refine ⟨b, off, cap, rfl, h3, h5, fun j u hu => ?_⟩
    have := h4 j u hu
    rwa [add_lit] at this

theorem Rf.kept {w w' : World} {m : Nat} {v : Value} {n : Nat} {cs : List Value} {S : Nat → Prop} (h : Rf w m v n cs) (hk : Kept S w w') (hn : ∀ k, v.ownBlock = some k → ¬ S k) : Rf w' m v n cs := by
  obtain ⟨h0, h1, h2⟩ := h
  refine ⟨h0, h1, ?_⟩
  rcases h2 with h2 | ⟨a, cap, rfl, h3, h5, h4⟩
  · exact .inl h2
  · refine .inr ⟨a, cap, rfl, h3, h5, fun j u hu => hk.cell (h4 j u hu) ?_⟩
    have e : (a.add j).block = a.block := by unfold Addr.add; split <;> rfl
    rw [e]
    exact hn _ rfl

theorem Rf.below {w w' : World} {m : Nat} {v : Value} {n : Nat} {cs : List Value} (h : Rf w m v n cs) (hk : Below w.heap.size w w') : Rf w' m v n cs := h.kept (Kept.ofBelow hk) (fun _ _ h => h)

theorem rf_of_owns {w : World} {B : Nat} {e : TypeId} {m : Nat} {v : Value} {n : Nat} {xs : List Value} (h : w.ownsRow B e m v n xs) (h1 : ∀ u ∈ xs, u.oneCell' = true) : Rf w m v n xs := by
  refine ⟨h.1, h1, ?_⟩
  rcases h.2 with h0 | ⟨g, cap, cur, rfl, hb, hg, hc, hm, hs, ht⟩
  · exact .inl h0
  · refine .inr ⟨_, cap, rfl, hc, hm, fun j u hu => ?_⟩
    exact h.cells (g := g) rfl j u hu

theorem Rf.sl {w : World} {v : Value} {bs : List Int} {n : Nat} (h : Rf w 1 v n (B8 bs)) : Sn w v bs := by
  have hl : bs.length = n := by simpa using h.1
  subst hl
  rcases Nat.eq_zero_or_pos bs.length with h0 | h0
  · obtain ⟨-, -, h2⟩ := h
    have hb : bs = [] := List.eq_nil_of_length_eq_zero h0
    subst hb
    rcases h2 with ⟨rfl, _⟩ | ⟨a, cap, rfl, h3, _⟩
    · exact sn_nil w
    · exact ⟨⟨_, cap, rfl, h3, fun h => absurd rfl h⟩, .inr ⟨_, _, _, rfl⟩⟩
  · obtain ⟨b, off, cap, rfl, h3, h5, h4⟩ := h.lits h0 (by omega)
    exact ⟨⟨_, cap, rfl, h3, fun _ => ⟨b, off, rfl, fun j x hx => h4 j _ (by simp [B8, hx])⟩⟩, .inr ⟨_, _, _, rfl⟩⟩

/-- Any row onto an owned one. -/
theorem append_rf (w : World) (ty : TypeId) (B : Nat) (t e : TypeId) (z : Value) (m bytes : Nat) (ht : Try.prog.underlying t = some (.slice e)) (hinfo : (Try.prog.info? e).map (fun i => (i.zero, i.size, i.bytes)) = some (some z, m, bytes)) (hzs : z.cells.size = m) (hm : 0 < m)
    (v : Value) (n : Nat) (xs : List Value) (hown : w.ownsRow B e m v n xs) (sv : Value) (k : Nat) (ys : List Value) (hs : Rf w m sv k ys) (hl : (n + k) * bytes ≤ 140737488355328) (hl2 : n + k ≤ maxLen) (hbase : B ≤ w.heap.size) :
    ∃ v' w', (Builtin.append_ #[t, t] ty #[v, sv]).run Try.prog w = .ok v' w' ∧ w'.ownsRow B e m v' (n + k) (xs ++ ys) ∧ w.grownBy w' v.ownBlock ∧ (v'.ownBlock = v.ownBlock ∨ v'.ownBlock = some w.heap.size) := by
  obtain ⟨i0, hi, hz0, hz1, hz2⟩ := info_parts hinfo
  obtain ⟨h0, h1, h2⟩ := hs
  rcases h2 with ⟨rfl, rfl⟩ | ⟨a, cap, rfl, h3, h5, h4⟩
  · have hy : ys = [] := List.eq_nil_of_length_eq_zero (by simpa using h0)
    subst hy
    exact ⟨v, w, run_append_owned_none (P := Try.prog) (w := w) B t ty e i0 m ht hi v n xs hown, by simpa using hown, ⟨rfl, rfl, rfl, Nat.le_refl _, fun _ _ _ => rfl⟩, .inl rfl⟩
  · obtain ⟨v', w', hr, q1, q2, _, q4⟩ := run_append_own_at (P := Try.prog) w B t ty e i0 z m bytes ht hi hz0 hz1 hz2 hzs hm v n xs hown a k cap ys h0 h4 h1 hl2 hl hbase
    exact ⟨v', w', hr, q1, q2, q4⟩

theorem wpList_append_rf (w : World) {ops : Array Oper} {rest : List Oper} {o : Oper} {a : Act} {Q : Exit → Act → World → Prop} (hgd : o.guard = none) (s x : Operand) (t e : TypeId) (z : Value) (m bytes : Nat)
    (ho : o.op = .call { callee := .builtin .append, args := #[s, x], argTypes := #[t, t] }) (ht : Try.prog.underlying t = some (.slice e)) (hinfo : (Try.prog.info? e).map (fun i => (i.zero, i.size, i.bytes)) = some (some z, m, bytes)) (hzs : z.cells.size = m) (hm : 0 < m)
    (B : Nat) (v : Value) (n : Nat) (xs : List Value) (hs : a.eval s = v) (hown : w.ownsRow B e m v n xs)
    (sv : Value) (k : Nat) (ys : List Value) (hx : a.eval x = sv) (hsn : Rf w m sv k ys) (hl : (n + k) * bytes ≤ 140737488355328) (hl2 : n + k ≤ maxLen) (hbase : B ≤ w.heap.size)
    (h : ∀ ao c w', Hid (w'.ownsRow B e m (.slice ao (n + k) c) (n + k) (xs ++ ys)) → Hid (w.grownBy w' v.ownBlock) → Hid ((Value.slice ao (n + k) c).ownBlock = v.ownBlock ∨ (Value.slice ao (n + k) c).ownBlock = some w.heap.size) → wpList Try.prog ops Q rest (a.put o.dst (.slice ao (n + k) c)) w') : wpList Try.prog ops Q (o :: rest) a w := by
  refine wpList_plain hgd fun K hK => ?_
  obtain ⟨v', w', hr, h2, h3, h4⟩ := append_rf w o.type B t e z m bytes ht hinfo hzs hm v n xs hown sv k ys hsn hl hl2 hbase
  obtain ⟨ao, c, rfl⟩ := own_shape h2
  unfold Oper.wp execOp
  simp only [ho, resolve, invoke, builtin, Sem.run_bind, Sem.run_pure, Result.andThen_ok, List.map_toArray, List.map_cons, List.map_nil, hs, hx, hr]
  exact hK _ _ (h ao c w' (hid h2) (hid h3) (hid h4))

theorem step_append_rf (w : World) {ops : Array Oper} {o : Oper} {a : Act} {K : Act → World → Prop} {Q : Exit → Act → World → Prop} {E : Prop} (hgd : o.guard = none) (s x : Operand) (t e : TypeId) (z : Value) (m bytes : Nat)
    (ho : o.op = .call { callee := .builtin .append, args := #[s, x], argTypes := #[t, t] }) (ht : Try.prog.underlying t = some (.slice e)) (hinfo : (Try.prog.info? e).map (fun i => (i.zero, i.size, i.bytes)) = some (some z, m, bytes)) (hzs : z.cells.size = m) (hm : 0 < m)
    (B : Nat) (v : Value) (n : Nat) (xs : List Value) (hs : a.eval s = v) (hown : w.ownsRow B e m v n xs)
    (sv : Value) (k : Nat) (ys : List Value) (hx : a.eval x = sv) (hsn : Rf w m sv k ys) (hl : (n + k) * bytes ≤ 140737488355328) (hl2 : n + k ≤ maxLen) (hbase : B ≤ w.heap.size)
    (h : ∀ ao c w', Hid (w'.ownsRow B e m (.slice ao (n + k) c) (n + k) (xs ++ ys)) → Hid (w.grownBy w' v.ownBlock) → Hid ((Value.slice ao (n + k) c).ownBlock = v.ownBlock ∨ (Value.slice ao (n + k) c).ownBlock = some w.heap.size) → K (a.put o.dst (.slice ao (n + k) c)) w') :
    if Region.wanted o (yielded ops a.tmps) = true then Oper.wp Try.prog o a w K Q else E := by
  have hw : Region.wanted o (yielded ops a.tmps) = true := by simp [Region.wanted, hgd]
  rw [if_pos hw]
  obtain ⟨v', w', hr, h2, h3, h4⟩ := append_rf w o.type B t e z m bytes ht hinfo hzs hm v n xs hown sv k ys hsn hl hl2 hbase
  obtain ⟨ao, c, rfl⟩ := own_shape h2
  unfold Oper.wp execOp
  simp only [ho, resolve, invoke, builtin, Sem.run_bind, Sem.run_pure, Result.andThen_ok, List.map_toArray, List.map_cons, List.map_nil, hs, hx, hr]
  exact h ao c w' (hid h2) (hid h3) (hid h4)

/-- The cells of one element of a flat row. -/
theorem flat_get {α : Type} (f : α → List Value) (m : Nat) (hf : ∀ x, (f x).length = m) : ∀ (xs : List α) (k c : Nat), c < m → (xs.flatMap f)[k * m + c]? = (xs[k]?).bind (fun x => (f x)[c]?)
  | [], k, c, _ => by simp
  | x :: xs, 0, c, h => by simp [List.getElem?_append_left, hf, h]
  | x :: xs, k + 1, c, h => by
    have ih := flat_get f m hf xs k c h
    rw [List.flatMap_cons, List.getElem?_append_right (by rw [hf, Nat.succ_mul]; omega), hf]
    have e : (k + 1) * m + c - m = k * m + c := by rw [Nat.succ_mul]; omega
    rw [e, ih]
    simp

theorem flat_len {α : Type} (f : α → List Value) (m : Nat) (hf : ∀ x, (f x).length = m) : ∀ xs : List α, (xs.flatMap f).length = xs.length * m
  | [] => by simp
  | x :: xs => by rw [List.flatMap_cons, List.length_append, hf, flat_len f m hf xs, List.length_cons, Nat.succ_mul]; omega

theorem add_add (a : Addr) (x y : Nat) : (a.add x).add y = a.add (x + y) := by
  unfold Addr.add
  by_cases hx : x = 0
  · subst hx; simp
  · by_cases hy : y = 0
    · subst hy; simp
    · simp [hx, hy, Nat.add_assoc]

/-- A slice whose elements are read, element by element. -/
theorem rf_of_trod {H : Type} {enc : TypeId × Value → H} {W : World} {base : Nat} {held : Bool} {fuel : Nat} {t e : TypeId} {cs : List Value} {x : DataW H × List MemPlace} {α : Type} [Inhabited α] (f : α → List Value) (p : α → Prop) (m : Nat) (hf : ∀ y, (f y).length = m) (h1 : ∀ y, ∀ u ∈ f y, u.oneCell' = true)
    (ht : Try.prog.underlying t = some (.slice e)) (hm : Try.prog.cellsOf e = m) (hel : ∀ n cs' x', DataW.trod enc Try.prog W base (fun _ => true) held n e cs' = some x' → ∃ y : α, p y ∧ cs' = f y)
    (h : DataW.trod enc Try.prog W base (fun _ => true) held fuel t cs = some x) : ∃ (v : Value) (ys : List α), cs = [v] ∧ Rf W m v ys.length (ys.flatMap f) ∧ ∀ y ∈ ys, p y := by
  rcases Go.Deep.open_slice ht h with ⟨rfl, _⟩ | ⟨a, len, cap, mm, n, D, Pl, rfl, _, hl, hcm, hmm, _, hx⟩
  · exact ⟨_, [], rfl, rf_nil W m, (fun _ h => nomatch h)⟩
  · simp only [if_true] at hmm
    subst hmm
    rw [hm] at hx
    have key : ∀ i, i < len → ∃ y : α, p y ∧ ∀ c, c < m → W.cell? ((a.add (i * m)).add c) = (f y)[c]? := by
      intro i hi
      obtain ⟨cs', q1, q2⟩ := hx i (by omega)
      obtain ⟨y, hy, rfl⟩ := hel _ _ _ q2
      exact ⟨y, hy, fun c hc => (World.cells?_some q1).2.2 c hc⟩
    obtain ⟨F, hF⟩ := Go.Deep.choose_lt key
    refine ⟨_, (List.range len).map F, rfl, ⟨flat_len f m hf _, ?_, .inr ⟨a, mm, by simp, by simpa using hl, hcm, ?_⟩⟩, ?_⟩
    · intro u hu
      obtain ⟨y, _, hy⟩ := List.mem_flatMap.1 hu
      exact h1 y u hy
    · intro j u hu
      have hmp : 0 < m := by
        rcases Nat.eq_zero_or_pos m with h0 | h0
        · have hz := flat_len f m hf ((List.range len).map F)
          rw [h0, Nat.mul_zero] at hz
          rw [List.eq_nil_of_length_eq_zero hz] at hu
          simp at hu
        · exact h0
      have hj : j = j / m * m + j % m := by rw [Nat.mul_comm]; exact (Nat.div_add_mod j m).symm
      have hc : j % m < m := Nat.mod_lt _ hmp
      rw [hj, flat_get f m hf _ _ _ hc] at hu
      rw [List.getElem?_map] at hu
      have hlt : j / m < len := by
        rcases Nat.lt_or_ge (j / m) len with h | h
        · exact h
        · rw [List.getElem?_eq_none (by simpa using h)] at hu
          simp at hu
      simp [hlt] at hu
      have := (hF (j / m) hlt).2 (j % m) hc
      rw [hu, add_add, ← hj] at this
      exact this
    · intro y hy
      simp at hy
      obtain ⟨i, hi, rfl⟩ := hy
      exact (hF i hi).1

end Go.Proofs.Ytljfmbjibjoiiab

namespace Go.Proofs.Ytljfmbjibjoiiab
open Go.RowKit Go.Lib

def stopI : Ins := ⟨16, 0, 0, 0, 0, 0, 0, emp⟩
def tellI : Ins := ⟨15, 15, 0, 0, 0, 0, 0, emp⟩
def p1 : ByteArray := ⟨#[112]⟩
def p2 : ByteArray := ⟨#[113, 46, 45, 95, 57]⟩

theorem stop_err (ar bh : Int) : insErr stopI ar bh = 0 := by
  simp [insErr, stopI, opErr, opN, opF, chkF, chk]

theorem tell_err (ar bh : Int) : insErr tellI ar bh = 0 := by
  simp [insErr, tellI, opErr, opN, opF, chkF, chk, Fk.fits, Fk.get, Fk.set, withinB]

theorem stops_chk (ar : Int) (len : Nat) : ∀ (m i : Nat), codeChk ar len i (List.replicate m stopI) = (0, 0) := by
  intro m
  induction m with
  | zero => intro i; rfl
  | succ m ih => intro i; rw [List.replicate_succ, codeChk, if_pos (stop_err _ _)]; exact ih _

theorem plain_err (x : Ins) (hk : x.k = 0) (hi : x.i = 0) (ht : x.t = emp) (ar bh : Int) : insErr x ar bh = 0 ∨ insErr x ar bh = 16 := by
  unfold insErr
  split
  · unfold opErr
    split
    · exact .inr rfl
    · split
      · left; rw [hk, hi, ht]; simp [chk]
      · exact .inr rfl
  · exact .inr rfl

theorem edge_one (x : Ins) (ar : Int) (h0 : 0 ≤ ar) (h1 : ar ≤ 16) (m : Nat) (hm : m ≤ 60) : procChk p1 ar (x :: List.replicate m stopI) = (0, insErr x ar m) := by
  have e1 : nameB p1 = true := by decide
  have e2 : withinB ar 0 16 = true := by simp [withinB, h0, h1]
  rw [procChk, if_pos e1, if_pos e2, if_pos (by simp; omega), codeChk]
  have e3 : (((x :: List.replicate m stopI).length : Nat) : Int) - 1 - (0 : Nat) = (m : Int) := by simp
  rw [e3]
  split
  · rename_i h; rw [h]; exact stops_chk _ _ _ _
  · rfl

theorem edge_two (x : Ins) (ar : Int) (h0 : 0 ≤ ar) (h1 : ar ≤ 16) (m : Nat) (hm : m ≤ 60) : procChk p2 ar (tellI :: x :: List.replicate m stopI) = (if insErr x ar m = 0 then 0 else 1, insErr x ar m) := by
  have e1 : nameB p2 = true := by decide
  have e2 : withinB ar 0 16 = true := by simp [withinB, h0, h1]
  rw [procChk, if_pos e1, if_pos e2, if_pos (by simp; omega), codeChk, if_pos (tell_err _ _), codeChk]
  have e3 : (((tellI :: x :: List.replicate m stopI).length : Nat) : Int) - 1 - ((0 + 1 : Nat) : Int) = (m : Int) := by simp <;> omega
  rw [e3]
  split
  · rename_i h; rw [h]; exact stops_chk _ _ _ _
  · rfl

theorem ins_cells (x : Ins) : x.cells.length = 8 := rfl
theorem ins_one (x : Ins) : ∀ u ∈ x.cells, u.oneCell' = true := by
  intro u hu
  simp only [Ins.cells, List.mem_cons, List.mem_nil_iff, or_false] at hu
  rcases hu with rfl | rfl | rfl | rfl | rfl | rfl | rfl | rfl <;> rfl

theorem Try.info28z : (Try.prog.info? 42).map (fun i => (i.zero, i.size, i.bytes)) = some (some (.agg zCells), 8, 72) := by kernel_rfl

theorem code_of_rf {w : World} {v : Value} {xs : List Ins} (h : Rf w 8 v xs.length (xs.flatMap Ins.cells)) : CodeAt w v xs := by
  obtain ⟨ao, cap, hv, hc, _⟩ := h.shape
  refine ⟨ao, cap, hv, hc, fun hne => ?_⟩
  obtain ⟨b, off, cap', hv', _, _, hcell⟩ := h.lits (List.length_pos_iff.2 hne) (by decide)
  rw [hv] at hv'
  injection hv' with hv1 _ _
  refine ⟨b, off, hv1, fun j x hx => ?_⟩
  have hg : ∀ m, m < 8 → w.cell? ⟨b, off + j * 8 + m, none⟩ = x.cells[m]? := by
    intro m hm
    have e := flat_get Ins.cells 8 ins_cells xs j m hm
    rw [hx] at e
    have hm2 : m < x.cells.length := hm
    have e2 : x.cells[m]? = some x.cells[m] := List.getElem?_eq_getElem hm2
    rw [Option.bind_some, e2] at e
    rw [e2, Nat.add_assoc]
    exact hcell _ _ e
  exact ⟨hg 0 (by decide), hg 1 (by decide), hg 2 (by decide), hg 3 (by decide), hg 4 (by decide), hg 5 (by decide), hg 6 (by decide), hg 7 (by decide)⟩

theorem all_one (xs : List Ins) : ∀ u ∈ xs.flatMap Ins.cells, u.oneCell' = true := by
  intro u hu
  obtain ⟨y, _, hy⟩ := List.mem_flatMap.1 hu
  exact ins_one y u hy

/-- While the first list is made. -/
structure Egs (w W : World) (ar : Int) (S : Value) (xs : List Ins) (r : Nat) : Prop where
  r0 : W.heap[r]? = some (po p1 ar S)
  ow : W.ownsRow (w.heap.size + 1) 42 8 S xs.length (xs.flatMap Ins.cells)
  hb : Below w.heap.size w W
  lt : w.heap.size < r

theorem owns_new (w : World) (B : Nat) (x : Ins) (hB : B ≤ w.heap.size) : (w.alloc (io x.op x.a x.b x.c x.n x.k x.i x.t)).ownsRow B 42 8 (.slice (some ⟨w.heap.size, 0, none⟩) 1 1) [x].length ([x].flatMap Ins.cells) := by
  refine ⟨by simp [Ins.cells], .inr ⟨w.heap.size, 1, _, rfl, hB, heap_alloc_new w _, Nat.le_refl _, by decide, by simp, ?_⟩⟩
  simp [Ins.cells]

theorem egs_start (w : World) (ar : Int) (x : Ins) : Egs w (((w.alloc (io x.op x.a x.b x.c x.n x.k x.i x.t)).alloc (io x.op x.a x.b x.c x.n x.k x.i x.t)).alloc (po p1 ar (.slice (some ⟨w.heap.size + 1, 0, none⟩) 1 1))) ar (.slice (some ⟨w.heap.size + 1, 0, none⟩) 1 1) [x] (w.heap.size + 1 + 1) := by
  have hz : (w.alloc (io x.op x.a x.b x.c x.n x.k x.i x.t)).heap.size = w.heap.size + 1 := by simp
  have h1 := owns_new (w.alloc (io x.op x.a x.b x.c x.n x.k x.i x.t)) (w.heap.size + 1) x (by simp)
  rw [hz] at h1
  have h3 := (three w (io x.op x.a x.b x.c x.n x.k x.i x.t) (io x.op x.a x.b x.c x.n x.k x.i x.t) (po p1 ar (.slice (some ⟨w.heap.size + 1, 0, none⟩) 1 1)))
  exact ⟨h3.2.2.1, h1.alloc _, h3.2.2.2, by omega⟩

theorem Egs.own {w W : World} {ar : Int} {ao : Option Addr} {cc k : Nat} {x : Ins} {r : Nat} (h : Egs w W ar (.slice ao (k + 1) cc) (x :: List.replicate k stopI) r) : W.ownsRow (w.heap.size + 1) 42 8 (.slice ao (k + 1) cc) (k + 1) ((x :: List.replicate k stopI).flatMap Ins.cells) := by
  have := h.ow
  simpa using this

theorem Egs.base {w W : World} {ar : Int} {S : Value} {xs : List Ins} {r : Nat} (h : Egs w W ar S xs r) (o : Obj) : w.heap.size + 1 ≤ (W.alloc o).heap.size := by
  have := h.hb.size
  simp
  omega

theorem rf_stop (w : World) : Rf (w.alloc (.cells #[.int .i64 16, .int .i64 0, .int .i64 0, .int .i64 0, .int .i64 0, .int .i64 0, .int .i64 0, .string emp] 42)) 8 (.slice (some ⟨w.heap.size, 0, none⟩) 1 1) 1 ([stopI].flatMap Ins.cells) :=
  rf_of_owns (owns_new w 0 stopI (Nat.zero_le _)) (all_one _)

theorem Egs.grow {w W W1 : World} {ar : Int} {ao ao1 : Option Addr} {cc c1 k : Nat} {x : Ins} {r : Nat} {o : Obj} (h : Egs w W ar (.slice ao (k + 1) cc) (x :: List.replicate k stopI) r)
    (hown : W1.ownsRow (w.heap.size + 1) 42 8 (.slice ao1 (k + 1 + 1) c1) (k + 1 + 1) ((x :: List.replicate k stopI).flatMap Ins.cells ++ [stopI].flatMap Ins.cells)) (hg : (W.alloc o).grownBy W1 (Value.slice ao (k + 1) cc).ownBlock) :
    W1.heap[r]? = some (po p1 ar (.slice ao (k + 1) cc)) ∧ Egs w (W1.setCell ⟨r, 2, none⟩ (.slice ao1 (k + 1 + 1) c1)) ar (.slice ao1 (k + 1 + 1) c1) (x :: List.replicate (k + 1) stopI) r := by
  have h1 : (W.alloc o).heap[r]? = some (po p1 ar (.slice ao (k + 1) cc)) := (Below.heap_alloc _ _ _ (lt_of h.r0)).trans h.r0
  have hne : (Value.slice ao (k + 1) cc).ownBlock ≠ some r := by
    intro e
    rcases h.ow.2 with ⟨e1, _⟩ | ⟨g, cap, cur, e1, _, hgg, _⟩
    · injection e1 with e1 _ _; rw [e1] at e; simp [Value.ownBlock] at e
    · injection e1 with e1 _ _
      rw [e1] at e
      simp [Value.ownBlock] at e
      rw [e, h.r0] at hgg
      simp at hgg
  have h2 : W1.heap[r]? = some (po p1 ar (.slice ao (k + 1) cc)) := (hg.block r (lt_of h1) (fun e => hne e.symm)).trans h1
  have hb1 : Below w.heap.size w W1 := (h.hb.alloc h.hb.size o).grown hg (h.hb.alloc h.hb.size o).size (fun q hq => by have := (h.own.lt q hq).1; omega)
  have hne2 : (Value.slice ao1 (k + 1 + 1) c1).ownBlock ≠ some r := by
    intro e
    rcases hown.2 with ⟨_, e2⟩ | ⟨g, cap, cur, e1, _, hgg, _⟩
    · omega
    · injection e1 with e1 _ _
      rw [e1] at e
      simp [Value.ownBlock] at e
      rw [e, h2] at hgg
      simp at hgg
  refine ⟨h2, ⟨po_set2 h2, ?_, hb1.setCell (p := ⟨r, 2, none⟩) (Nat.le_of_lt h.lt) _, h.lt⟩⟩
  have e : (x :: List.replicate k stopI).flatMap Ins.cells ++ [stopI].flatMap Ins.cells = (x :: List.replicate (k + 1) stopI).flatMap Ins.cells := by
    rw [← List.flatMap_append, List.cons_append, ← List.replicate_succ']
  rw [e] at hown
  have hk : Kept (fun q => q = r) W1 (W1.setCell ⟨r, 2, none⟩ (.slice ao1 (k + 1 + 1) c1)) := Kept.setCell (p := ⟨r, 2, none⟩) (Kept.refl (fun q => q = r) W1) (fun _ => rfl) _
  have := ownsRow_kept hown hk (fun q hq e => hne2 (by rw [hq, e]))
  simpa using this

theorem Egs.below {w W W' : World} {ar : Int} {S : Value} {xs : List Ins} {r : Nat} (h : Egs w W ar S xs r) (hb : Below W.heap.size W W') : Egs w W' ar S xs r :=
  ⟨blk_of hb h.r0 (lt_of h.r0), ownsRow_kept h.ow (Kept.ofBelow hb) (fun _ _ h => h), below_on h.hb hb, h.lt⟩

theorem Egs.code {w W : World} {ar : Int} {S : Value} {xs : List Ins} {r : Nat} (h : Egs w W ar S xs r) : CodeAt W S xs := code_of_rf (rf_of_owns h.ow (all_one _))

theorem own_tell (w : World) : (w.alloc (.cells #[.int .i64 15, .int .i64 15, .int .i64 0, .int .i64 0, .int .i64 0, .int .i64 0, .int .i64 0, .string emp] 42)).ownsRow w.heap.size 42 8 (.slice (some ⟨w.heap.size, 0, none⟩) 1 1) 1 ([tellI].flatMap Ins.cells) :=
  owns_new w w.heap.size tellI (Nat.le_refl _)

theorem Egs.two {w W W2 : World} {ar : Int} {ao ao2 : Option Addr} {cc c2 k : Nat} {x : Ins} {r : Nat} {o : Obj} {v : Value} (h : Egs w W ar (.slice ao (k + 1) cc) (x :: List.replicate k stopI) r)
    (hown : W2.ownsRow W.heap.size 42 8 (.slice ao2 (1 + (k + 1)) c2) (1 + (k + 1)) ([tellI].flatMap Ins.cells ++ (x :: List.replicate k stopI).flatMap Ins.cells)) (hg : (W.alloc o).grownBy W2 v.ownBlock)
    (hv : v.ownBlock = some W.heap.size := by rfl) :
    Egs w W2 ar (.slice ao (k + 1) cc) (x :: List.replicate k stopI) r ∧ CodeAt W2 (.slice ao2 (1 + (k + 1)) c2) (tellI :: x :: List.replicate k stopI) := by
  have hb : Below W.heap.size W W2 := (below1 W o).trans ((Below.refl _ _).grown hg (by simp) (fun q hq => by rw [hv] at hq; have := Option.some.inj hq; omega))
  refine ⟨h.below hb, code_of_rf ?_⟩
  have := rf_of_owns hown (by
    intro u hu
    rw [← List.flatMap_append] at hu
    exact all_one _ u hu)
  rw [← List.flatMap_append] at this
  simpa [Nat.add_comm] using this

theorem twos {w w2 w3 : World} {ar : Int} {ao ao2 : Option Addr} {cc c2 k : Nat} {x : Ins} {r : Nat} {o : Obj} (h : Egs w w2 ar (.slice ao (k + 1) cc) (x :: List.replicate k stopI) r ∧ CodeAt w2 (.slice ao2 (1 + (k + 1)) c2) (tellI :: x :: List.replicate k stopI))
    (hb : Below (w2.alloc o).heap.size (w2.alloc o) w3) : w3.heap[w2.heap.size]? = some o ∧ CodeAt w3 (.slice ao2 (1 + (k + 1)) c2) (tellI :: x :: List.replicate k stopI) ∧ Below w.heap.size w w3 :=
  ⟨blk_of hb (heap_alloc_new w2 o) (by simp), (h.2.below (below1 w2 o)).below hb, below_on h.1.hb (below_on (below1 w2 o) hb)⟩

end Go.Proofs.Ytljfmbjibjoiiab

namespace Go.Proofs.Ytljfmbjibjoiiab
open Go.RowKit Go.Lib

/-- An instruction behind a list's end. -/
def markI (i : Int) : Ins := ⟨wrap64 (77 + i), -1, 0, 0, 0, 9, 0, ⟨#[109, 97, 114, 107]⟩⟩

set_option maxRecDepth 100000 in
theorem mark_any (i : Int) (w : World) : Calls Try.prog 16 #[.int .i64 i] w fun e w' => e = .returned (markI i).val ∧ Below w.heap.size w w' := by
  go_enter Try.func16, Try.ntmps16
  go_wp2
  go_returns
  exact ⟨rfl, below1 w _⟩

/-- While a twin is made. -/
structure Tws (w W : World) (nm : ByteArray) (ar : Int) (S L : Value) (ys : List Ins) : Prop where
  r0 : W.heap[w.heap.size]? = some (po nm ar S)
  r1 : W.heap[w.heap.size + 1]? = some (po emp 0 (.slice none 0 0))
  ow : W.ownsRow (w.heap.size + 1 + 1) 42 8 L ys.length (ys.flatMap Ins.cells)
  hb : Below w.heap.size w W

theorem Tws.below {w W W' : World} {nm : ByteArray} {ar : Int} {S L : Value} {ys : List Ins} (h : Tws w W nm ar S L ys) (hb : Below W.heap.size W W') : Tws w W' nm ar S L ys :=
  ⟨blk_of hb h.r0 (lt_of h.r0), blk_of hb h.r1 (lt_of h.r1), ownsRow_kept h.ow (Kept.ofBelow hb) (fun _ _ h => h), below_on h.hb hb⟩

theorem Tws.app {w W W1 : World} {nm : ByteArray} {ar : Int} {S L L' : Value} {ys zs : List Ins} (h : Tws w W nm ar S L ys) (hown : W1.ownsRow (w.heap.size + 1 + 1) 42 8 L' (ys.length + zs.length) (ys.flatMap Ins.cells ++ zs.flatMap Ins.cells)) (hg : W.grownBy W1 L.ownBlock) :
    Tws w W1 nm ar S L' (ys ++ zs) := by
  have hne : ∀ r, r < w.heap.size + 1 + 1 → L.ownBlock ≠ some r := fun r hr e => by have := (h.ow.lt r e).1; omega
  refine ⟨(hg.block _ (lt_of h.r0) (fun e => hne _ (by omega) e.symm)).trans h.r0, (hg.block _ (lt_of h.r1) (fun e => hne _ (by omega) e.symm)).trans h.r1, ?_, h.hb.grown hg h.hb.size (fun k hk => by have := (h.ow.lt k hk).1; omega)⟩
  rw [← List.flatMap_append] at hown
  rw [List.length_append]
  exact hown

theorem Tws.row {w W : World} {nm : ByteArray} {ar : Int} {S L : Value} {ys : List Ins} {n : Nat} {o : Obj} (h : Tws w W nm ar S L ys) (hn : ys.length = n) : (W.alloc o).ownsRow (w.heap.size + 1 + 1) 42 8 L n (ys.flatMap Ins.cells) := by
  rw [← hn]
  exact h.ow.alloc _

theorem Tws.base {w W : World} {nm : ByteArray} {ar : Int} {S L : Value} {ys : List Ins} (h : Tws w W nm ar S L ys) (o : Obj) : w.heap.size + 1 + 1 ≤ (W.alloc o).heap.size := by
  have := lt_of h.r1
  simp
  omega

theorem rf_new (w : World) (x : Ins) : Rf (w.alloc (io x.op x.a x.b x.c x.n x.k x.i x.t)) 8 (.slice (some ⟨w.heap.size, 0, none⟩) 1 1) 1 ([x].flatMap Ins.cells) :=
  rf_of_owns (owns_new w 0 x (Nat.zero_le _)) (all_one _)

theorem Tws.list {w W : World} {nm : ByteArray} {ar : Int} {S : Value} {ao : Option Addr} {n c : Nat} {ys : List Ins} (h : Tws w W nm ar S (.slice ao (n + 9) c) (ys ++ (List.range 9).map (fun i : Nat => markI (i : Int)))) :
    ∃ g cur, ao = some ⟨g, 0, none⟩ ∧ w.heap.size + 1 + 1 ≤ g ∧ n + 9 ≤ c ∧ W.heap[g]? = some (.cells cur 42 (0, 0)) ∧ ∀ (j : Nat) (x : Ins), (ys ++ (List.range 9).map (fun i : Nat => markI (i : Int)))[j]? = some x → InsAt W g (j * 8) x := by
  have hc := code_of_rf (rf_of_owns h.ow (all_one _))
  rcases h.ow.2 with ⟨_, e2⟩ | ⟨g, cap, cur, e1, hB, hgg, hle, _⟩
  · simp at e2
  · injection e1 with e1 e2 e3
    refine ⟨g, cur, e1, hB, by omega, hgg, ?_⟩
    obtain ⟨ao', cap', e4, _, hx⟩ := hc
    injection e4 with e4 _ _
    obtain ⟨b, off, e5, hat⟩ := hx (by simp)
    rw [← e4, e1] at e5
    injection e5 with e5
    injection e5 with e5 e6 _
    subst e5 e6
    intro j x hx
    have := hat j x hx
    rwa [Nat.zero_add] at this

theorem tw_fin {w W : World} {nm : ByteArray} {ar : Int} {S L : Value} {ys zs : List Ins} {g : Nat} {cur : Array Value} (h : Tws w W nm ar S L ys) (hg : w.heap.size + 1 + 1 ≤ g) (hb : W.heap[g]? = some (.cells cur 42 (0, 0))) (hc : ∀ (j : Nat) (x : Ins), zs[j]? = some x → InsAt W g (j * 8) x) (v : Value) :
    ((((W.setCell ⟨w.heap.size, 2, none⟩ v).setCell ⟨w.heap.size + 1, 0, none⟩ (.string nm)).setCell ⟨w.heap.size + 1, 1, none⟩ (.int .i64 ar)).setCell ⟨w.heap.size + 1, 2, none⟩ v).heap[w.heap.size + 1]? = some (.cells #[.string nm, .int .i64 ar, v] 24 (0, 0)) ∧ ((((W.setCell ⟨w.heap.size, 2, none⟩ v).setCell ⟨w.heap.size + 1, 0, none⟩ (.string nm)).setCell ⟨w.heap.size + 1, 1, none⟩ (.int .i64 ar)).setCell ⟨w.heap.size + 1, 2, none⟩ v).heap[g]? = some (.cells cur 42 (0, 0)) ∧ (∀ (j : Nat) (x : Ins), zs[j]? = some x → InsAt ((((W.setCell ⟨w.heap.size, 2, none⟩ v).setCell ⟨w.heap.size + 1, 0, none⟩ (.string nm)).setCell ⟨w.heap.size + 1, 1, none⟩ (.int .i64 ar)).setCell ⟨w.heap.size + 1, 2, none⟩ v) g (j * 8) x) ∧ Below w.heap.size w ((((W.setCell ⟨w.heap.size, 2, none⟩ v).setCell ⟨w.heap.size + 1, 0, none⟩ (.string nm)).setCell ⟨w.heap.size + 1, 1, none⟩ (.int .i64 ar)).setCell ⟨w.heap.size + 1, 2, none⟩ v) := by
  have e0 : ∀ k, k ≠ w.heap.size → (W.setCell ⟨w.heap.size, 2, none⟩ v).heap[k]? = W.heap[k]? := fun k hk => Below.heap_setCell _ _ _ _ hk
  have b1 := (e0 (w.heap.size + 1) (by omega)).trans h.r1
  have hB := h.hb.setCell (p := ⟨w.heap.size, 2, none⟩) (Nat.le_refl _) v
  have bg := e0 g (by omega)
  generalize W.setCell ⟨w.heap.size, 2, none⟩ v = V at b1 hB bg
  have e1 : ∀ k, k ≠ w.heap.size + 1 → (((V.setCell ⟨w.heap.size + 1, 0, none⟩ (.string nm)).setCell ⟨w.heap.size + 1, 1, none⟩ (.int .i64 ar)).setCell ⟨w.heap.size + 1, 2, none⟩ v).heap[k]? = V.heap[k]? :=
    fun k hk => (Below.heap_setCell _ _ _ _ hk).trans ((Below.heap_setCell _ _ _ _ hk).trans (Below.heap_setCell _ _ _ _ hk))
  have eg := (e1 g (by omega)).trans bg
  exact ⟨set3 b1 _ _ _, eg.trans hb, fun j x hx => (hc j x hx).same eg, Below.set3 hB (by omega) _ _ _⟩

/-- What twin leaves. -/
def TwPost (nm : ByteArray) (ar : Int) (xs : List Ins) (w : World) (e : Ending) (w' : World) : Prop :=
  ∃ g cap cur, e = .returned (.agg #[.string nm, .int .i64 ar, .slice (some ⟨g, 0, none⟩) xs.length cap]) ∧ xs.length + 9 ≤ cap ∧ w.heap.size ≤ g ∧ w'.heap[g]? = some (.cells cur 42 (0, 0)) ∧
    (∀ (j : Nat) (x : Ins), (xs ++ (List.range 9).map (fun i : Nat => markI (i : Int)))[j]? = some x → InsAt w' g (j * 8) x) ∧ Below w.heap.size w w'

set_option maxRecDepth 100000 in
set_option maxHeartbeats 4000000 in
theorem twin_any (nm : ByteArray) (ar : Int) (S : Value) (xs : List Ins) (w : World) (h : Rf w 8 S xs.length (xs.flatMap Ins.cells)) (hl : (xs.length : Int) ≤ 65536) :
    Calls Try.prog 6 #[.agg #[.string nm, .int .i64 ar, S]] w (TwPost nm ar xs w) := by
  have HR := hid h
  obtain ⟨ao, cap, rfl, hc, _⟩ := h.shape
  clear h hc
  have hb0 := below2 w (po nm ar (.slice ao xs.length cap)) (po emp 0 (.slice none 0 0))
  have H0 : Hid (Tws w ((w.alloc (po nm ar (.slice ao xs.length cap))).alloc (po emp 0 (.slice none 0 0))) nm ar (.slice ao xs.length cap) (.slice none 0 0) []) :=
    hid ⟨two1 w _ _, two2 w _ _, World.ownsRow_nil _ _ _ _, hb0⟩
  have HR0 := hid (HR.out.below hb0)
  clear hb0
  go_enter Try.func6, Try.ntmps6
  go_wp2_with (at_builtin; go_loud (
    refine wpList_append_rf _ rfl _ _ 22 42 (.agg zCells) 8 72 rfl Try.underlying22 Try.info28z rfl (by decide) (w.heap.size + 1 + 1) _ 0 [] rfl H0.out.ow _ xs.length _ rfl HR0.out (by omega) (by unfold maxLen; omega) (by simp) ?_
    intro ao1 c1 w1 hown hgrow hat
    have H1 := hid (H0.out.app (zs := xs) hown.out hgrow.out)
    clear hown hgrow hat))
  go_loopw [3, 4] (fun l ix wr => ∃ (k : Nat) (ao2 : Option Addr) (c2 : Nat), k ≤ 9 ∧ ix = .int .i64 k ∧ l = .slice ao2 (xs.length + k) c2 ∧ Hid (Tws w wr nm ar (.slice ao xs.length cap) (.slice ao2 (xs.length + k) c2) (xs ++ (List.range k).map (fun i : Nat => markI (i : Int))))) (fun _ ix _ => 9 - (intOf ix).toNat)
  case atStart => exact ⟨0, ao1, c1, by omega, rfl, by simp, hid (by simpa using H1.out)⟩
  case round =>
    clear H0 H1 HR0
    obtain ⟨k, ao2, c2, hk, rfl, rfl, hT⟩ := hrel
    by_cases hlt : k < 9
    · have hlt' : (k : Int) < 9 := by omega
      have HM := hid (fun W => mark_any (k : Int) W)
      unfold Ins.val at HM
      go_wp2_with (first
        | (go_at_call 16
           refine (HM.out _).mono ?_
           rintro e w2 ⟨rfl, hb2⟩
           have H2 := hid (hT.out.below hb2)
           clear hb2)
        | (at_builtin; go_loud (
           refine wpList_append_rf _ rfl _ _ 22 42 (.agg zCells) 8 72 rfl Try.underlying22 Try.info28z rfl (by decide) (w.heap.size + 1 + 1) _ (xs.length + k) _ rfl (H2.out.row (by simp)) _ 1 ([markI (k : Int)].flatMap Ins.cells) rfl (rf_new w2 (markI (k : Int))) (by omega) (by unfold maxLen; omega) (H2.out.base _) ?_
           intro ao3 c3 w3 hown hgrow hat
           have H3 := hid ((H2.out.below (below1 w2 _)).app (zs := [markI (k : Int)]) (by simpa using hown.out) hgrow.out)
           clear hown hgrow hat)))
      go_roundw
      case rel =>
        refine ⟨k + 1, ao3, c3, by omega, by go_num, by simp [Nat.add_assoc], hid ?_⟩
        have := H3.out
        rw [List.append_assoc] at this
        rw [List.range_succ, List.map_append]
        simpa [Nat.add_assoc] using this
      case measure => simp [intOf]; omega
    · obtain rfl : k = 9 := by omega
      obtain ⟨p0, p1', p2', pz⟩ := vfacts hT.out.r0
      obtain ⟨q0, q1, q2, qz⟩ := vfacts hT.out.r1
      obtain ⟨g, cur, rfl, hg, hcap, hblk, hco⟩ := hT.out.list
      have HG := hid (And.intro hg (And.intro hcap (And.intro hblk hco)))
      have hcl : (xs.length : Int) ≤ (c2 : Int) := by omega
      clear hg hblk hco
      go_wp2
      have HF := tw_fin hT.out HG.out.1 HG.out.2.2.1 HG.out.2.2.2 (.slice (some ⟨g, 0, none⟩) xs.length c2)
      refine bodyPost_ret (ret24 Try.results6 rfl HF.1) rfl ?_
      exact ⟨g, c2, cur, rfl, HG.out.2.1, by have := HG.out.1; omega, HF.2.1, HF.2.2.1, HF.2.2.2⟩

end Go.Proofs.Ytljfmbjibjoiiab
