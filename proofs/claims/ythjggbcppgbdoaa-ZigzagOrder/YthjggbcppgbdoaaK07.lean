import Derived.Test.YthjggbcppgbdoaaK01
import Derived.ProofKit
import Derived.OpenShut
import Derived.Deep.Slices
import Derived.ArgAppend
import Derived.Test.YthjggbcppgbdoaaK06
namespace Go.Proofs.Ythjggbcppgbdoaa
open Go.RowKit

theorem add_lit (b off j : Nat) : (⟨b, off, none⟩ : Addr).add j = ⟨b, off + j, none⟩ := by
  unfold Addr.add; split <;> simp_all
theorem owns_block {w : World} {B : Nat} {e : TypeId} {size : Nat} {v : Value} {n : Nat} {xs : List Value} (h : w.ownsRow B e size v n xs) : ∀ k, v.ownBlock = some k → ∃ cs, w.heap[k]? = some (.cells cs e (0, 0)) := by
  intro k hk
  rcases h.2 with ⟨rfl, _⟩ | ⟨g, cap, cur, rfl, hb, hg, _⟩
  · simp [Value.ownBlock] at hk
  · simp [Value.ownBlock] at hk
    subst hk
    exact ⟨_, hg⟩
theorem own_ne_blk {w : World} {B : Nat} {e : TypeId} {s : Nat} {v : Value} {n : Nat} {xs : List Value} (h : w.ownsRow B e s v n xs) {k : Nat} {cs : Array Value} {t : TypeId} {fr : Nat × Nat} (hb : w.heap[k]? = some (.cells cs t fr)) (hne : e ≠ t) : v.ownBlock ≠ some k := by
  intro h1
  obtain ⟨cs', a⟩ := owns_block h k h1
  rw [a] at hb
  injection hb with b
  injection b with b1 b2
  exact hne b2
theorem own_shape {w : World} {B : Nat} {e : TypeId} {size : Nat} {v : Value} {n : Nat} {xs : List Value} (h : w.ownsRow B e size v n xs) : ∃ ao c, v = .slice ao n c := by
  rcases h.2 with ⟨e1, e2⟩ | ⟨g, cap, cur, e1, _⟩
  · exact ⟨none, 0, by rw [e1, e2]⟩
  · exact ⟨_, _, e1⟩

/-- v is a slice of n elements of m cells each, and these are its cells. -/
def Rf (w : World) (m : Nat) (v : Value) (n : Nat) (cs : List Value) : Prop :=
  cs.length = n * m ∧ (∀ u ∈ cs, u.oneCell' = true) ∧ ((v = .slice none 0 0 ∧ n = 0) ∨ ∃ a cap, v = .slice (some a) n cap ∧ n ≤ cap ∧ cap ≤ maxLen ∧ ∀ j u, cs[j]? = some u → w.cell? (a.add j) = some u)

theorem rf_nil (w : World) (m : Nat) : Rf w m (.slice none 0 0) 0 [] := ⟨by simp, (fun _ h => nomatch h), .inl ⟨rfl, rfl⟩⟩

theorem Rf.shape {w : World} {m : Nat} {v : Value} {n : Nat} {cs : List Value} (h : Rf w m v n cs) : ∃ ao cap, v = .slice ao n cap ∧ n ≤ cap ∧ cap ≤ maxLen := by
  rcases h.2.2 with ⟨rfl, rfl⟩ | ⟨a, cap, rfl, h1, h2, _⟩
  · exact ⟨none, 0, rfl, Nat.le_refl _, by simp [maxLen]⟩
  · exact ⟨_, _, rfl, h1, h2⟩

theorem Rf.lits {w : World} {m : Nat} {v : Value} {n : Nat} {cs : List Value} (h : Rf w m v n cs) (h0 : 0 < n) (hm : 0 < m) : ∃ b off cap, v = .slice (some ⟨b, off, none⟩) n cap ∧ n ≤ cap ∧ cap ≤ maxLen ∧ ∀ j u, cs[j]? = some u → w.cell? ⟨b, off + j, none⟩ = some u := by
  obtain ⟨hl, -, h2⟩ := h
  rcases h2 with ⟨rfl, rfl⟩ | ⟨a, cap, rfl, h3, h5, h4⟩
  · omega
  · obtain ⟨b, off, spot⟩ := a
    have hpos : 0 < cs.length := by rw [hl]; exact Nat.mul_pos h0 hm
    have c0 := h4 0 cs[0] (by simp [hpos])
    have hspot : spot = none := by simpa [Addr.add] using World.cell?_spot c0
    subst hspot
    refine ⟨b, off, cap, rfl, h3, h5, fun j u hu => ?_⟩
    have := h4 j u hu
    rwa [add_lit] at this

theorem Rf.kept {w w' : World} {m : Nat} {v : Value} {n : Nat} {cs : List Value} {S : Nat → Prop} (h : Rf w m v n cs) (hk : Kept S w w') (hn : ∀ k, v.ownBlock = some k → ¬ S k) : Rf w' m v n cs := by
  obtain ⟨h0, h1, h2⟩ := h
  refine ⟨h0, h1, ?_⟩
  rcases h2 with h2 | ⟨a, cap, rfl, h3, h5, h4⟩
  · exact .inl h2
  · refine .inr ⟨a, cap, rfl, h3, h5, fun j u hu => hk.cell (h4 j u hu) ?_⟩
    have e : (a.add j).block = a.block := by unfold Addr.add; split <;> rfl
    rw [e]
    exact hn _ rfl

theorem Rf.below {w w' : World} {m : Nat} {v : Value} {n : Nat} {cs : List Value} (h : Rf w m v n cs) (hk : Below w.heap.size w w') : Rf w' m v n cs := h.kept (Kept.ofBelow hk) (fun _ _ h => h)

theorem rf_of_owns {w : World} {B : Nat} {e : TypeId} {m : Nat} {v : Value} {n : Nat} {xs : List Value} (h : w.ownsRow B e m v n xs) (h1 : ∀ u ∈ xs, u.oneCell' = true) : Rf w m v n xs := by
  refine ⟨h.1, h1, ?_⟩
  rcases h.2 with h0 | ⟨g, cap, cur, rfl, hb, hg, hc, hm, hs, ht⟩
  · exact .inl h0
  · refine .inr ⟨_, cap, rfl, hc, hm, fun j u hu => ?_⟩
    exact h.cells (g := g) rfl j u hu

/-- Any row onto an owned one. -/
theorem append_rf (w : World) (ty : TypeId) (B : Nat) (t e : TypeId) (z : Value) (m bytes : Nat) (ht : Try.prog.underlying t = some (.slice e)) (hinfo : (Try.prog.info? e).map (fun i => (i.zero, i.size, i.bytes)) = some (some z, m, bytes)) (hzs : z.cells.size = m) (hm : 0 < m)
    (v : Value) (n : Nat) (xs : List Value) (hown : w.ownsRow B e m v n xs) (sv : Value) (k : Nat) (ys : List Value) (hs : Rf w m sv k ys) (hl : (n + k) * bytes ≤ 140737488355328) (hl2 : n + k ≤ maxLen) (hbase : B ≤ w.heap.size) :
    ∃ v' w', (Builtin.append_ #[t, t] ty #[v, sv]).run Try.prog w = .ok v' w' ∧ w'.ownsRow B e m v' (n + k) (xs ++ ys) ∧ w.grownBy w' v.ownBlock ∧ (v'.ownBlock = v.ownBlock ∨ v'.ownBlock = some w.heap.size) := by
  obtain ⟨i0, hi, hz0, hz1, hz2⟩ := info_parts hinfo
  obtain ⟨h0, h1, h2⟩ := hs
  rcases h2 with ⟨rfl, rfl⟩ | ⟨a, cap, rfl, h3, h5, h4⟩
  · have hy : ys = [] := List.eq_nil_of_length_eq_zero (by simpa using h0)
    subst hy
    exact ⟨v, w, run_append_owned_none (P := Try.prog) (w := w) B t ty e i0 m ht hi v n xs hown, by simpa using hown, ⟨rfl, rfl, rfl, Nat.le_refl _, fun _ _ _ => rfl⟩, .inl rfl⟩
  · obtain ⟨v', w', hr, q1, q2, _, q4⟩ := run_append_own_at (P := Try.prog) w B t ty e i0 z m bytes ht hi hz0 hz1 hz2 hzs hm v n xs hown a k cap ys h0 h4 h1 hl2 hl hbase
    exact ⟨v', w', hr, q1, q2, q4⟩

theorem wpList_append_rf (w : World) {ops : Array Oper} {rest : List Oper} {o : Oper} {a : Act} {Q : Exit → Act → World → Prop} (hgd : o.guard = none) (s x : Operand) (t e : TypeId) (z : Value) (m bytes : Nat)
    (ho : o.op = .call { callee := .builtin .append, args := #[s, x], argTypes := #[t, t] }) (ht : Try.prog.underlying t = some (.slice e)) (hinfo : (Try.prog.info? e).map (fun i => (i.zero, i.size, i.bytes)) = some (some z, m, bytes)) (hzs : z.cells.size = m) (hm : 0 < m)
    (B : Nat) (v : Value) (n : Nat) (xs : List Value) (hs : a.eval s = v) (hown : w.ownsRow B e m v n xs)
    (sv : Value) (k : Nat) (ys : List Value) (hx : a.eval x = sv) (hsn : Rf w m sv k ys) (hl : (n + k) * bytes ≤ 140737488355328) (hl2 : n + k ≤ maxLen) (hbase : B ≤ w.heap.size)
    (h : ∀ ao c w', Hid (w'.ownsRow B e m (.slice ao (n + k) c) (n + k) (xs ++ ys)) → Hid (w.grownBy w' v.ownBlock) → Hid ((Value.slice ao (n + k) c).ownBlock = v.ownBlock ∨ (Value.slice ao (n + k) c).ownBlock = some w.heap.size) → wpList Try.prog ops Q rest (a.put o.dst (.slice ao (n + k) c)) w') : wpList Try.prog ops Q (o :: rest) a w := by
  refine wpList_plain hgd fun K hK => ?_
  obtain ⟨v', w', hr, h2, h3, h4⟩ := append_rf w o.type B t e z m bytes ht hinfo hzs hm v n xs hown sv k ys hsn hl hl2 hbase
  obtain ⟨ao, c, rfl⟩ := own_shape h2
  unfold Oper.wp execOp
  simp only [ho, resolve, invoke, builtin, Sem.run_bind, Sem.run_pure, Result.andThen_ok, List.map_toArray, List.map_cons, List.map_nil, hs, hx, hr]
  exact hK _ _ (h ao c w' (hid h2) (hid h3) (hid h4))

theorem step_append_rf (w : World) {ops : Array Oper} {o : Oper} {a : Act} {K : Act → World → Prop} {Q : Exit → Act → World → Prop} {E : Prop} (hgd : o.guard = none) (s x : Operand) (t e : TypeId) (z : Value) (m bytes : Nat)
    (ho : o.op = .call { callee := .builtin .append, args := #[s, x], argTypes := #[t, t] }) (ht : Try.prog.underlying t = some (.slice e)) (hinfo : (Try.prog.info? e).map (fun i => (i.zero, i.size, i.bytes)) = some (some z, m, bytes)) (hzs : z.cells.size = m) (hm : 0 < m)
    (B : Nat) (v : Value) (n : Nat) (xs : List Value) (hs : a.eval s = v) (hown : w.ownsRow B e m v n xs)
    (sv : Value) (k : Nat) (ys : List Value) (hx : a.eval x = sv) (hsn : Rf w m sv k ys) (hl : (n + k) * bytes ≤ 140737488355328) (hl2 : n + k ≤ maxLen) (hbase : B ≤ w.heap.size)
    (h : ∀ ao c w', Hid (w'.ownsRow B e m (.slice ao (n + k) c) (n + k) (xs ++ ys)) → Hid (w.grownBy w' v.ownBlock) → Hid ((Value.slice ao (n + k) c).ownBlock = v.ownBlock ∨ (Value.slice ao (n + k) c).ownBlock = some w.heap.size) → K (a.put o.dst (.slice ao (n + k) c)) w') :
    if Region.wanted o (yielded ops a.tmps) = true then Oper.wp Try.prog o a w K Q else E := by
  have hw : Region.wanted o (yielded ops a.tmps) = true := by simp [Region.wanted, hgd]
  rw [if_pos hw]
  obtain ⟨v', w', hr, h2, h3, h4⟩ := append_rf w o.type B t e z m bytes ht hinfo hzs hm v n xs hown sv k ys hsn hl hl2 hbase
  obtain ⟨ao, c, rfl⟩ := own_shape h2
  unfold Oper.wp execOp
  simp only [ho, resolve, invoke, builtin, Sem.run_bind, Sem.run_pure, Result.andThen_ok, List.map_toArray, List.map_cons, List.map_nil, hs, hx, hr]
  exact h ao c w' (hid h2) (hid h3) (hid h4)

/-- The cells of one element of a flat row. -/
theorem flat_get {α : Type} (f : α → List Value) (m : Nat) (hf : ∀ x, (f x).length = m) : ∀ (xs : List α) (k c : Nat), c < m → (xs.flatMap f)[k * m + c]? = (xs[k]?).bind (fun x => (f x)[c]?)
  | [], k, c, _ => by simp
  | x :: xs, 0, c, h => by simp [List.getElem?_append_left, hf, h]
  | x :: xs, k + 1, c, h => by
    have ih := flat_get f m hf xs k c h
    rw [List.flatMap_cons, List.getElem?_append_right (by rw [hf, Nat.succ_mul]; omega), hf]
    have e : (k + 1) * m + c - m = k * m + c := by rw [Nat.succ_mul]; omega
    rw [e, ih]
    simp

theorem flat_len {α : Type} (f : α → List Value) (m : Nat) (hf : ∀ x, (f x).length = m) : ∀ xs : List α, (xs.flatMap f).length = xs.length * m
  | [] => by simp
  | x :: xs => by rw [List.flatMap_cons, List.length_append, hf, flat_len f m hf xs, List.length_cons, Nat.succ_mul]; omega

theorem add_add (a : Addr) (x y : Nat) : (a.add x).add y = a.add (x + y) := by
  unfold Addr.add
  by_cases hx : x = 0
  · subst hx; simp
  · by_cases hy : y = 0
    · subst hy; simp
    · simp [hx, hy, Nat.add_assoc]

/-- A slice whose elements are read, element by element. -/
theorem rf_of_trod {H : Type} {enc : TypeId × Value → H} {W : World} {base : Nat} {held : Bool} {fuel : Nat} {t e : TypeId} {cs : List Value} {x : DataW H × List MemPlace} {α : Type} [Inhabited α] (f : α → List Value) (p : α → Prop) (m : Nat) (hf : ∀ y, (f y).length = m) (h1 : ∀ y, ∀ u ∈ f y, u.oneCell' = true)
    (ht : Try.prog.underlying t = some (.slice e)) (hm : Try.prog.cellsOf e = m) (hel : ∀ n cs' x', DataW.trod enc Try.prog W base (fun _ => true) held n e cs' = some x' → ∃ y : α, p y ∧ cs' = f y)
    (h : DataW.trod enc Try.prog W base (fun _ => true) held fuel t cs = some x) : ∃ (v : Value) (ys : List α), cs = [v] ∧ Rf W m v ys.length (ys.flatMap f) ∧ ∀ y ∈ ys, p y := by
  rcases Go.Deep.open_slice ht h with ⟨rfl, _⟩ | ⟨a, len, cap, mm, n, D, Pl, rfl, _, hl, hcm, hmm, _, hx⟩
  · exact ⟨_, [], rfl, rf_nil W m, (fun _ h => nomatch h)⟩
  · simp only [if_true] at hmm
    subst hmm
    rw [hm] at hx
    have key : ∀ i, i < len → ∃ y : α, p y ∧ ∀ c, c < m → W.cell? ((a.add (i * m)).add c) = (f y)[c]? := by
      intro i hi
      obtain ⟨cs', q1, q2⟩ := hx i (by omega)
      obtain ⟨y, hy, rfl⟩ := hel _ _ _ q2
      exact ⟨y, hy, fun c hc => (World.cells?_some q1).2.2 c hc⟩
    obtain ⟨F, hF⟩ := Go.Deep.choose_lt key
    refine ⟨_, (List.range len).map F, rfl, ⟨flat_len f m hf _, ?_, .inr ⟨a, mm, by simp, by simpa using hl, hcm, ?_⟩⟩, ?_⟩
    · intro u hu
      obtain ⟨y, _, hy⟩ := List.mem_flatMap.1 hu
      exact h1 y u hy
    · intro j u hu
      have hmp : 0 < m := by
        rcases Nat.eq_zero_or_pos m with h0 | h0
        · have hz := flat_len f m hf ((List.range len).map F)
          rw [h0, Nat.mul_zero] at hz
          rw [List.eq_nil_of_length_eq_zero hz] at hu
          simp at hu
        · exact h0
      have hj : j = j / m * m + j % m := by rw [Nat.mul_comm]; exact (Nat.div_add_mod j m).symm
      have hc : j % m < m := Nat.mod_lt _ hmp
      rw [hj, flat_get f m hf _ _ _ hc] at hu
      rw [List.getElem?_map] at hu
      have hlt : j / m < len := by
        rcases Nat.lt_or_ge (j / m) len with h | h
        · exact h
        · rw [List.getElem?_eq_none (by simpa using h)] at hu
          simp at hu
      simp [hlt] at hu
      have := (hF (j / m) hlt).2 (j % m) hc
      rw [hu, add_add, ← hj] at this
      exact this
    · intro y hy
      simp at hy
      obtain ⟨i, hi, rfl⟩ := hy
      exact (hF i hi).1

end Go.Proofs.Ythjggbcppgbdoaa


namespace Go.Proofs.Ythjggbcppgbdoaa
open Go.RowKit

/-- The document's place: a key and its slot. -/
abbrev Pl := ByteArray × Sd
def plC (e : Pl) : List Value := [.string e.1, .int .i64 e.2.c0, .int .i64 e.2.c1, .bool e.2.h0, .bool e.2.h1, .int .i64 (bit e.2.r), .int .i64 (bit e.2.w)]
theorem plC_len (e : Pl) : (plC e).length = 7 := rfl
/-- The document's list in the heap: only read. -/
abbrev Rl (w : World) (v : Value) (l : List Pl) : Prop := Rf w 7 v l.length (l.flatMap plC)

theorem Rl.cells {w : World} {l : List Pl} {g off cap : Nat} (h : Rl w (.slice (some ⟨g, off, none⟩) l.length cap) l) (k : Nat) (hk : k < l.length) (c : Nat) (u : Value) (hc : c < 7) (hu : (plC l[k])[c]? = some u) : w.cell? ⟨g, off + (k * 7 + c), none⟩ = some u := by
  obtain ⟨g2, o2, c2, e, -, -, hcell⟩ := h.lits (by omega) (by omega)
  injection e with e1 e2 e3
  injection e1 with e1
  injection e1 with e1 e4
  subst e1 e4
  refine hcell (k * 7 + c) u ?_
  rw [flat_get plC 7 plC_len l k c hc, List.getElem?_eq_getElem hk]
  exact hu

theorem tw_len {α : Type} {p : α → Bool} : ∀ {l : List α} {k : Nat}, (∀ i (h : i < l.length), i < k → p l[i] = true) → (∀ h : k < l.length, p l[k] = false) → k ≤ l.length → (l.takeWhile p).length = k
  | [], k, _, _, hk => by simp at hk; simp [hk]
  | a :: l, 0, _, h2, _ => by
    have := h2 (by simp)
    simp at this
    simp [List.takeWhile, this]
  | a :: l, k + 1, h1, h2, hk => by
    have ha := h1 0 (by simp) (by omega)
    simp at ha
    simp only [List.takeWhile, ha, List.length_cons]
    have := tw_len (l := l) (k := k) (p := p) (fun i h hi => by have := h1 (i + 1) (by simpa using h) (by omega); simpa using this) (fun h => by have := h2 (by simpa using h); simpa using this) (by simp at hk; exact hk)
    omega

/-- Where a key stands, or would. -/
def ri (key : ByteArray) (l : List Pl) : Nat := (l.takeWhile (fun e => kl e.1 key)).length
def rs (key : ByteArray) (l : List Pl) : Bool := match l[ri key l]? with | some e => decide (e.1 = key) | none => false

def RatP (key : ByteArray) (l : List Pl) (w : World) : Ending → World → Prop := fun x w' => x = .returned (.tuple #[.int .i64 (ri key l), .bool (rs key l)]) ∧ Below w.heap.size w w'

theorem rat_fin {key : ByteArray} {l : List Pl} {w : World} {k : Nat} {q : Bool} (h1 : ∀ i (h : i < l.length), i < k → kl l[i].1 key = true) (hk : k ≤ l.length) (h2 : (q = true ∧ ∃ h : k < l.length, l[k].1 = key) ∨ (q = false ∧ ∀ h : k < l.length, kl key l[k].1 = true)) (o : Obj) : RatP key l w (.returned (.tuple #[.int .i64 k, .bool q])) (w.alloc o) := by
  have hi : ri key l = k := tw_len h1 (fun h => by
    rcases h2 with ⟨-, h', e⟩ | ⟨-, e⟩
    · rw [e]; exact kl_irrefl _
    · exact kl_asymm (e h)) hk
  have hs : rs key l = q := by
    unfold rs
    rw [hi]
    rcases h2 with ⟨rfl, h', e⟩ | ⟨rfl, e⟩
    · rw [List.getElem?_eq_getElem h']
      simp [e]
    · rcases Nat.lt_or_ge k l.length with h' | h'
      · rw [List.getElem?_eq_getElem h']
        simp [(kl_ne (e h')).symm]
      · rw [List.getElem?_eq_none h']
  exact ⟨by rw [hi, hs], below_new _ _⟩

set_option maxRecDepth 100000 in
set_option maxHeartbeats 4000000 in
theorem rat_any (v : Value) (m : Bool) (l : List Pl) (key : ByteArray) (w : World) (h : Rl w v l) (hl : l.length ≤ 1000000) : Calls Try.prog 63 #[.agg #[v, .bool m], .string key] w (RatP key l w) := by
  obtain ⟨ao, cap, e, -, -⟩ := h.shape
  subst e
  have FI := hid (fun (k : Nat) (q : Bool) h1 hk h2 => rat_fin (key := key) (l := l) (w := w) (k := k) (q := q) h1 hk h2 (.cells #[.slice ao l.length cap, .bool m] 34))
  have HR := hid h
  have hbox := hp_new w (.cells #[.slice ao l.length cap, .bool m] 34)
  obtain ⟨y0, y1⟩ := cells2 hbox
  have HB := hid (below_new w (.cells #[.slice ao l.length cap, .bool m] 34))
  obtain ⟨W, hW⟩ : ∃ W, W = w.alloc (.cells #[.slice ao l.length cap, .bool m] 34) := ⟨_, rfl⟩
  rw [← hW] at y0 y1 HB FI
  have HW := hid hW
  generalize hP : RatP key l w = PP at FI ⊢
  clear h hbox hP hW y1
  go_enter Try.func63, Try.ntmps63
  go_wp2
  rw [← HW.out]
  go_loop [6] (fun i => ∃ k : Nat, i = .int .i64 k ∧ k ≤ l.length ∧ Hid (∀ j (hj : j < l.length), j < k → kl l[j].1 key = true)) (fun i => l.length - (intOf i).toNat)
  case atStart => exact ⟨0, rfl, Nat.zero_le _, hid (fun j hj h => by omega)⟩
  case round =>
    obtain ⟨k, rfl, hk, hno⟩ := hrel
    by_cases h1 : k < l.length
    · obtain ⟨g, off, cap', e, -, -, -⟩ := HR.out.lits (by omega) (by omega)
      injection e with e1 _ e3
      subst e1 e3
      have v0 := (HB.out.cell (p := ⟨g, off + (k * 7 + 0), none⟩) (World.block_lt_of_cell? _ _ (Rl.cells HR.out k h1 0 (.string l[k].1) (by omega) rfl))).trans (Rl.cells HR.out k h1 0 (.string l[k].1) (by omega) rfl)
      simp only [Nat.add_zero] at v0
      by_cases he : l[k].1 = key
      · have b0 : (l[k].1.toList == key.toList) = true := by rw [he]; simp
        have FF := hid (FI.out k true hno.out hk (.inl ⟨rfl, h1, he⟩))
        generalize l[k].1 = kk at v0 b0
        clear he FI
        go_wp2
        exact FF.out
      · have b0 := keq_false he
        cases hg : kl key l[k].1
        · have b1 : kl l[k].1 key = true := by
            cases hc : kl l[k].1 key
            · exact absurd (kl_tri hc hg) he
            · rfl
          have HN := hid (show ∀ j (hj : j < l.length), j < k + 1 → kl l[j].1 key = true from fun j hj hjk => by
            by_cases hjk2 : j < k
            · exact hno.out j hj hjk2
            · have : j = k := by omega
              subst this
              cases hc : kl l[j].1 key
              · exact absurd (kl_tri hc hg) he
              · rfl)
          generalize l[k].1 = kk at v0 b0 b1
          clear he hg FI
          go_wp2
          go_round
          case rel => exact ⟨k + 1, by go_num, by omega, HN⟩
          case measure => simp [intOf]; omega
        · have b1 : kl l[k].1 key = false := kl_asymm hg
          have FF := hid (FI.out k false hno.out hk (.inr ⟨rfl, fun _ => hg⟩))
          generalize l[k].1 = kk at v0 b0 b1
          clear he hg FI
          go_wp2
          exact FF.out
    · have hke : k = l.length := by omega
      have FF := hid (FI.out k false hno.out hk (.inr ⟨rfl, fun h => by omega⟩))
      subst hke
      clear FI
      go_wp2
      exact FF.out

end Go.Proofs.Ythjggbcppgbdoaa

namespace Go.Proofs.Ythjggbcppgbdoaa
open Go.RowKit

abbrev Sd.agg (s : Sd) : Value := .agg #[.int .i64 s.c0, .int .i64 s.c1, .bool s.h0, .bool s.h1, .int .i64 (bit s.r), .int .i64 (bit s.w)]

set_option maxRecDepth 100000 in
set_option maxHeartbeats 2000000 in
theorem rhas_any (s : Sd) (w : World) : Calls Try.prog 65 #[s.agg] w fun x w' => x = .returned (.bool (s.has s.r)) ∧ Below w.heap.size w w' := by
  obtain ⟨c0, c1, h0, h1, r, wb⟩ := s
  have HB := hid (below_new w (.cells #[.int .i64 c0, .int .i64 c1, .bool h0, .bool h1, .int .i64 (bit r), .int .i64 (bit wb)] 56))
  cases r
  · show Calls Try.prog 65 #[.agg #[.int .i64 c0, .int .i64 c1, .bool h0, .bool h1, .int .i64 0, .int .i64 (bit wb)]] w _
    have HB2 := hid (show Below w.heap.size w (w.alloc (.cells #[.int .i64 c0, .int .i64 c1, .bool h0, .bool h1, .int .i64 0, .int .i64 (bit wb)] 56)) from HB.out)
    generalize bit wb = z at HB2 ⊢
    clear HB
    go_enter Try.func65, Try.ntmps65
    go_wp2
    go_ret
    exact ⟨rfl, HB2.out⟩
  · show Calls Try.prog 65 #[.agg #[.int .i64 c0, .int .i64 c1, .bool h0, .bool h1, .int .i64 1, .int .i64 (bit wb)]] w _
    have HB2 := hid (show Below w.heap.size w (w.alloc (.cells #[.int .i64 c0, .int .i64 c1, .bool h0, .bool h1, .int .i64 1, .int .i64 (bit wb)] 56)) from HB.out)
    generalize bit wb = z at HB2 ⊢
    clear HB
    go_enter Try.func65, Try.ntmps65
    go_wp2
    go_ret
    exact ⟨rfl, HB2.out⟩

/-- What the document says that a key has. -/
def rgetV (key : ByteArray) (l : List Pl) : Int × Bool := match l[ri key l]? with
  | some e => if rs key l = true ∧ e.2.has e.2.r = true then (e.2.copy e.2.r, true) else (0, false)
  | none => (0, false)

set_option maxRecDepth 100000 in
set_option maxHeartbeats 4000000 in
theorem rget_any (v : Value) (m : Bool) (l : List Pl) (key : ByteArray) (w : World) (h : Rl w v l) (hl : l.length ≤ 1000000) : Calls Try.prog 40 #[.agg #[v, .bool m], .string key] w fun x w' => x = .returned (.tuple #[.int .i64 (rgetV key l).1, .bool (rgetV key l).2]) ∧ Below w.heap.size w w' := by
  obtain ⟨ao, cap, e, -, -⟩ := h.shape
  subst e
  obtain ⟨W, hW⟩ : ∃ W, W = w.alloc (.cells #[.slice ao l.length cap, .bool m] 34) := ⟨_, rfl⟩
  have B0 := hid (show Below w.heap.size w W from hW ▸ below_new _ _)
  have hbox : W.heap[w.heap.size]? = some (.cells #[.slice ao l.length cap, .bool m] 34 (0, 0)) := by rw [hW]; exact hp_new _ _
  have AT := hid (rat_any (.slice ao l.length cap) m l key W (h.below B0.out) hl)
  have HX := hid hbox
  obtain ⟨y0, y1⟩ := cells2 hbox
  have HW := hid hW
  have HR := hid h
  cases hs : rs key l
  · have A2 := hid (show Calls Try.prog 63 #[.agg #[.slice ao l.length cap, .bool m], .string key] W fun x w' => x = .returned (.tuple #[.int .i64 (ri key l), .bool false]) ∧ Below W.heap.size W w' from AT.out.mono (by
      rintro x w' ⟨rfl, hb⟩
      exact ⟨by rw [hs], hb⟩))
    have e : rgetV key l = (0, false) := by
      unfold rgetV
      cases l[ri key l]? with
      | none => rfl
      | some e => simp [hs]
    rw [e]
    clear h hbox hW AT hs e
    go_enter Try.func40, Try.ntmps40
    go_wp2_with (
      go_at_call 63
      rw [← HW.out]
      refine A2.out.mono ?_
      rintro e w1 ⟨rfl, hb⟩
      have B1 := hid (below_on B0.out hb)
      clear hb)
    go_ret2
    exact ⟨rfl, B1.out⟩
  · obtain ⟨e, hk, he⟩ : ∃ e, ∃ hk : ri key l < l.length, l[ri key l] = e := by
      unfold rs at hs
      rcases Nat.lt_or_ge (ri key l) l.length with h1 | h1
      · exact ⟨_, h1, rfl⟩
      · rw [List.getElem?_eq_none h1] at hs; cases hs
    have A2 := hid (show Calls Try.prog 63 #[.agg #[.slice ao l.length cap, .bool m], .string key] W fun x w' => x = .returned (.tuple #[.int .i64 (ri key l), .bool true]) ∧ Below W.heap.size W w' from AT.out.mono (by
      rintro x w' ⟨rfl, hb⟩
      exact ⟨by rw [hs], hb⟩))
    have eV : rgetV key l = if e.2.has e.2.r = true then (e.2.copy e.2.r, true) else (0, false) := by
      unfold rgetV
      rw [List.getElem?_eq_getElem hk, he]
      simp [hs]
    rw [eV]
    obtain ⟨g, off, cap', e1, -, -, -⟩ := HR.out.lits (by omega) (by omega)
    injection e1 with ea _ ec
    subst ea ec
    have CW := hid (show ∀ w1, Below w.heap.size w w1 → ∀ c u, c < 7 → (plC e)[c]? = some u → w1.cell? ⟨g, off + (ri key l * 7 + c), none⟩ = some u from fun w1 hb c u hc hu => by
      have := Rl.cells HR.out (ri key l) hk c u hc (by rw [he]; exact hu)
      exact (hb.cell (p := ⟨g, off + (ri key l * 7 + c), none⟩) (World.block_lt_of_cell? _ _ this)).trans this)
    have hki : ((ri key l : Nat) : Int) < l.length := by omega
    obtain ⟨ek, c0, c1, h0, h1, r, wb⟩ := e
    have RH := hid (rhas_any ⟨c0, c1, h0, h1, r, wb⟩)
    clear h hbox hW AT hs eV he
    generalize ri key l = i at CW A2 hki
    cases r
    · cases h0
      · have R2 := hid (show ∀ w1, Calls Try.prog 65 #[.agg #[.int .i64 c0, .int .i64 c1, .bool false, .bool h1, .int .i64 0, .int .i64 (bit wb)]] w1 fun x w' => x = .returned (.bool false) ∧ Below w1.heap.size w1 w' from fun w1 => RH.out w1)
        have C2 := hid (show ∀ w1, Below w.heap.size w w1 → w1.cell? ⟨g, off + i * 7 + 1, none⟩ = some (.int .i64 c0) ∧ w1.cell? ⟨g, off + i * 7 + 2, none⟩ = some (.int .i64 c1) ∧ w1.cell? ⟨g, off + i * 7 + 3, none⟩ = some (.bool false) ∧ w1.cell? ⟨g, off + i * 7 + 4, none⟩ = some (.bool h1) ∧ w1.cell? ⟨g, off + i * 7 + 5, none⟩ = some (.int .i64 0) ∧ w1.cell? ⟨g, off + i * 7 + 6, none⟩ = some (.int .i64 (bit wb)) from fun w1 hb => by
          simp only [Nat.add_assoc]
          exact ⟨CW.out w1 hb 1 _ (by omega) rfl, CW.out w1 hb 2 _ (by omega) rfl, CW.out w1 hb 3 _ (by omega) rfl, CW.out w1 hb 4 _ (by omega) rfl, CW.out w1 hb 5 _ (by omega) rfl, CW.out w1 hb 6 _ (by omega) rfl⟩)
        generalize bit wb = z at R2 C2
        clear RH CW
        simp only [Sd.has, Sd.copy, Bool.false_eq_true, if_false]
        go_enter Try.func40, Try.ntmps40
        go_wp2_with (first
          | (go_at_call 63
             rw [← HW.out]
             refine A2.out.mono ?_
             rintro e w1 ⟨rfl, hb⟩
             have B1 := hid (below_on B0.out hb)
             obtain ⟨v1, v2, v3, v4, v5, v6⟩ := C2.out w1 B1.out
             have u0 := (cells2 (hp_below HX.out hb (hp_lt HX.out))).1
             have HX1 := hid (hp_below HX.out hb (hp_lt HX.out))
             clear hb)
          | (go_at_call 65
             refine (R2.out w1).mono ?_
             rintro e w2 ⟨rfl, hb⟩
             have B2 := hid hb
             obtain ⟨x1, x2, x3, x4, x5, x6⟩ := C2.out w2 (below_on B1.out hb)
             have u1 := (cells2 (hp_below HX1.out hb (hp_lt HX1.out))).1
             clear hb))
        go_ret2
        exact ⟨rfl, below_on B1.out B2.out⟩
      · have R2 := hid (show ∀ w1, Calls Try.prog 65 #[.agg #[.int .i64 c0, .int .i64 c1, .bool true, .bool h1, .int .i64 0, .int .i64 (bit wb)]] w1 fun x w' => x = .returned (.bool true) ∧ Below w1.heap.size w1 w' from fun w1 => RH.out w1)
        have C2 := hid (show ∀ w1, Below w.heap.size w w1 → w1.cell? ⟨g, off + i * 7 + 1, none⟩ = some (.int .i64 c0) ∧ w1.cell? ⟨g, off + i * 7 + 2, none⟩ = some (.int .i64 c1) ∧ w1.cell? ⟨g, off + i * 7 + 3, none⟩ = some (.bool true) ∧ w1.cell? ⟨g, off + i * 7 + 4, none⟩ = some (.bool h1) ∧ w1.cell? ⟨g, off + i * 7 + 5, none⟩ = some (.int .i64 0) ∧ w1.cell? ⟨g, off + i * 7 + 6, none⟩ = some (.int .i64 (bit wb)) from fun w1 hb => by
          simp only [Nat.add_assoc]
          exact ⟨CW.out w1 hb 1 _ (by omega) rfl, CW.out w1 hb 2 _ (by omega) rfl, CW.out w1 hb 3 _ (by omega) rfl, CW.out w1 hb 4 _ (by omega) rfl, CW.out w1 hb 5 _ (by omega) rfl, CW.out w1 hb 6 _ (by omega) rfl⟩)
        generalize bit wb = z at R2 C2
        clear RH CW
        simp only [Sd.has, Sd.copy, Bool.false_eq_true, if_false, if_true]
        go_enter Try.func40, Try.ntmps40
        go_wp2_with (first
          | (go_at_call 63
             rw [← HW.out]
             refine A2.out.mono ?_
             rintro e w1 ⟨rfl, hb⟩
             have B1 := hid (below_on B0.out hb)
             obtain ⟨v1, v2, v3, v4, v5, v6⟩ := C2.out w1 B1.out
             have u0 := (cells2 (hp_below HX.out hb (hp_lt HX.out))).1
             have HX1 := hid (hp_below HX.out hb (hp_lt HX.out))
             clear hb)
          | (go_at_call 65
             refine (R2.out w1).mono ?_
             rintro e w2 ⟨rfl, hb⟩
             have B2 := hid hb
             obtain ⟨x1, x2, x3, x4, x5, x6⟩ := C2.out w2 (below_on B1.out hb)
             have u1 := (cells2 (hp_below HX1.out hb (hp_lt HX1.out))).1
             clear hb))
        go_quiet (fail)
        go_wp2
        go_ret2
        exact ⟨rfl, blw_drewN (below_on B1.out B2.out)⟩
    · cases h1
      · have R2 := hid (show ∀ w1, Calls Try.prog 65 #[.agg #[.int .i64 c0, .int .i64 c1, .bool h0, .bool false, .int .i64 1, .int .i64 (bit wb)]] w1 fun x w' => x = .returned (.bool false) ∧ Below w1.heap.size w1 w' from fun w1 => RH.out w1)
        have C2 := hid (show ∀ w1, Below w.heap.size w w1 → w1.cell? ⟨g, off + i * 7 + 1, none⟩ = some (.int .i64 c0) ∧ w1.cell? ⟨g, off + i * 7 + 2, none⟩ = some (.int .i64 c1) ∧ w1.cell? ⟨g, off + i * 7 + 3, none⟩ = some (.bool h0) ∧ w1.cell? ⟨g, off + i * 7 + 4, none⟩ = some (.bool false) ∧ w1.cell? ⟨g, off + i * 7 + 5, none⟩ = some (.int .i64 1) ∧ w1.cell? ⟨g, off + i * 7 + 6, none⟩ = some (.int .i64 (bit wb)) from fun w1 hb => by
          simp only [Nat.add_assoc]
          exact ⟨CW.out w1 hb 1 _ (by omega) rfl, CW.out w1 hb 2 _ (by omega) rfl, CW.out w1 hb 3 _ (by omega) rfl, CW.out w1 hb 4 _ (by omega) rfl, CW.out w1 hb 5 _ (by omega) rfl, CW.out w1 hb 6 _ (by omega) rfl⟩)
        generalize bit wb = z at R2 C2
        clear RH CW
        simp only [Sd.has, Sd.copy, Bool.false_eq_true, if_false, if_true]
        go_enter Try.func40, Try.ntmps40
        go_wp2_with (first
          | (go_at_call 63
             rw [← HW.out]
             refine A2.out.mono ?_
             rintro e w1 ⟨rfl, hb⟩
             have B1 := hid (below_on B0.out hb)
             obtain ⟨v1, v2, v3, v4, v5, v6⟩ := C2.out w1 B1.out
             have u0 := (cells2 (hp_below HX.out hb (hp_lt HX.out))).1
             have HX1 := hid (hp_below HX.out hb (hp_lt HX.out))
             clear hb)
          | (go_at_call 65
             refine (R2.out w1).mono ?_
             rintro e w2 ⟨rfl, hb⟩
             have B2 := hid hb
             obtain ⟨x1, x2, x3, x4, x5, x6⟩ := C2.out w2 (below_on B1.out hb)
             have u1 := (cells2 (hp_below HX1.out hb (hp_lt HX1.out))).1
             clear hb))
        go_ret2
        exact ⟨rfl, below_on B1.out B2.out⟩
      · have R2 := hid (show ∀ w1, Calls Try.prog 65 #[.agg #[.int .i64 c0, .int .i64 c1, .bool h0, .bool true, .int .i64 1, .int .i64 (bit wb)]] w1 fun x w' => x = .returned (.bool true) ∧ Below w1.heap.size w1 w' from fun w1 => RH.out w1)
        have C2 := hid (show ∀ w1, Below w.heap.size w w1 → w1.cell? ⟨g, off + i * 7 + 1, none⟩ = some (.int .i64 c0) ∧ w1.cell? ⟨g, off + i * 7 + 2, none⟩ = some (.int .i64 c1) ∧ w1.cell? ⟨g, off + i * 7 + 3, none⟩ = some (.bool h0) ∧ w1.cell? ⟨g, off + i * 7 + 4, none⟩ = some (.bool true) ∧ w1.cell? ⟨g, off + i * 7 + 5, none⟩ = some (.int .i64 1) ∧ w1.cell? ⟨g, off + i * 7 + 6, none⟩ = some (.int .i64 (bit wb)) from fun w1 hb => by
          simp only [Nat.add_assoc]
          exact ⟨CW.out w1 hb 1 _ (by omega) rfl, CW.out w1 hb 2 _ (by omega) rfl, CW.out w1 hb 3 _ (by omega) rfl, CW.out w1 hb 4 _ (by omega) rfl, CW.out w1 hb 5 _ (by omega) rfl, CW.out w1 hb 6 _ (by omega) rfl⟩)
        generalize bit wb = z at R2 C2
        clear RH CW
        simp only [Sd.has, Sd.copy, if_true]
        go_enter Try.func40, Try.ntmps40
        go_wp2_with (first
          | (go_at_call 63
             rw [← HW.out]
             refine A2.out.mono ?_
             rintro e w1 ⟨rfl, hb⟩
             have B1 := hid (below_on B0.out hb)
             obtain ⟨v1, v2, v3, v4, v5, v6⟩ := C2.out w1 B1.out
             have u0 := (cells2 (hp_below HX.out hb (hp_lt HX.out))).1
             have HX1 := hid (hp_below HX.out hb (hp_lt HX.out))
             clear hb)
          | (go_at_call 65
             refine (R2.out w1).mono ?_
             rintro e w2 ⟨rfl, hb⟩
             have B2 := hid hb
             obtain ⟨x1, x2, x3, x4, x5, x6⟩ := C2.out w2 (below_on B1.out hb)
             have u1 := (cells2 (hp_below HX1.out hb (hp_lt HX1.out))).1
             clear hb))
        go_quiet (fail)
        go_wp2
        go_ret2
        exact ⟨rfl, blw_drewN (below_on B1.out B2.out)⟩

end Go.Proofs.Ythjggbcppgbdoaa
