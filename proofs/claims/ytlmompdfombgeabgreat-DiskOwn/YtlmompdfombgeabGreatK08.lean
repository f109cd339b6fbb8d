import Derived.Test.YtlmompdfombgeabGreatK02
import Derived.ProofKit
import Derived.OpenShut
import Derived.Deep.Slices
import Derived.Test.YtlmompdfombgeabGreatK06
import Derived.Test.YtlmompdfombgeabGreatK07
namespace Go.Proofs.YtlmompdfombgeabGreat
open Go.RowKit

/-- v is a slice of n elements of m cells each, and these are its cells. -/
def Rf (w : World) (m : Nat) (v : Value) (n : Nat) (cs : List Value) : Prop :=
  cs.length = n * m ∧ (∀ u ∈ cs, u.oneCell' = true) ∧ ((v = .slice none 0 0 ∧ n = 0) ∨ ∃ a cap, v = .slice (some a) n cap ∧ n ≤ cap ∧ cap ≤ maxLen ∧ ∀ j u, cs[j]? = some u → w.cell? (a.add j) = some u)

theorem rf_nil (w : World) (m : Nat) : Rf w m (.slice none 0 0) 0 [] := ⟨by simp, (fun _ h => nomatch h), .inl ⟨rfl, rfl⟩⟩

theorem Rf.shape {w : World} {m : Nat} {v : Value} {n : Nat} {cs : List Value} (h : Rf w m v n cs) : ∃ ao cap, v = .slice ao n cap ∧ n ≤ cap ∧ cap ≤ maxLen := by
  rcases h.2.2 with ⟨rfl, rfl⟩ | ⟨a, cap, rfl, h1, h2, _⟩
  · exact ⟨none, 0, rfl, Nat.le_refl _, by simp [maxLen]⟩
  · exact ⟨_, _, rfl, h1, h2⟩

theorem Rf.lits {w : World} {m : Nat} {v : Value} {n : Nat} {cs : List Value} (h : Rf w m v n cs) (h0 : 0 < n) (hm : 0 < m) : ∃ b off cap, v = .slice (some ⟨b, off, none⟩) n cap ∧ n ≤ cap ∧ cap ≤ maxLen ∧ ∀ j u, cs[j]? = some u → w.cell? ⟨b, off + j, none⟩ = some u := by
  obtain ⟨hl, -, h2⟩ := h
  rcases h2 with ⟨rfl, rfl⟩ | ⟨a, cap, rfl, h3, h5, h4⟩
  · omega
  · obtain ⟨b, off, spot⟩ := a
    have hpos : 0 < cs.length := by rw [hl]; exact Nat.mul_pos h0 hm
    have c0 := h4 0 cs[0] (by simp [hpos])
    have hspot : spot = none := by simpa [Addr.add] using World.cell?_spot c0
    subst hspot
    refine ⟨b, off, cap, rfl, h3, h5, fun j u hu => ?_⟩
    have := h4 j u hu
    rwa [add_lit] at this

theorem Rf.kept {w w' : World} {m : Nat} {v : Value} {n : Nat} {cs : List Value} {S : Nat → Prop} (h : Rf w m v n cs) (hk : Kept S w w') (hn : ∀ k, v.ownBlock = some k → ¬ S k) : Rf w' m v n cs := by
  obtain ⟨h0, h1, h2⟩ := h
  refine ⟨h0, h1, ?_⟩
  rcases h2 with h2 | ⟨a, cap, rfl, h3, h5, h4⟩
  · exact .inl h2
  · refine .inr ⟨a, cap, rfl, h3, h5, fun j u hu => hk.cell (h4 j u hu) ?_⟩
    have e : (a.add j).block = a.block := by unfold Addr.add; split <;> rfl
    rw [e]
    exact hn _ rfl

theorem Rf.below {w w' : World} {m : Nat} {v : Value} {n : Nat} {cs : List Value} (h : Rf w m v n cs) (hk : Below w.heap.size w w') : Rf w' m v n cs := h.kept (Kept.ofBelow hk) (fun _ _ h => h)

theorem rf_of_owns {w : World} {B : Nat} {e : TypeId} {m : Nat} {v : Value} {n : Nat} {xs : List Value} (h : w.ownsRow B e m v n xs) (h1 : ∀ u ∈ xs, u.oneCell' = true) : Rf w m v n xs := by
  refine ⟨h.1, h1, ?_⟩
  rcases h.2 with h0 | ⟨g, cap, cur, rfl, hb, hg, hc, hm, hs, ht⟩
  · exact .inl h0
  · refine .inr ⟨_, cap, rfl, hc, hm, fun j u hu => ?_⟩
    exact h.cells (g := g) rfl j u hu

theorem Rf.sl {w : World} {v : Value} {bs : List Int} {n : Nat} (h : Rf w 1 v n (B8 bs)) : Sn w v bs := by
  have hl : bs.length = n := by simpa using h.1
  subst hl
  rcases Nat.eq_zero_or_pos bs.length with h0 | h0
  · obtain ⟨-, -, h2⟩ := h
    have hb : bs = [] := List.eq_nil_of_length_eq_zero h0
    subst hb
    rcases h2 with ⟨rfl, _⟩ | ⟨a, cap, rfl, h3, _⟩
    · exact sn_nil w
    · exact ⟨⟨_, cap, rfl, h3, fun h => absurd rfl h⟩, .inr ⟨_, _, _, rfl⟩⟩
  · obtain ⟨b, off, cap, rfl, h3, h5, h4⟩ := h.lits h0 (by omega)
    exact ⟨⟨_, cap, rfl, h3, fun _ => ⟨b, off, rfl, fun j x hx => h4 j _ (by simp [B8, hx])⟩⟩, .inr ⟨_, _, _, rfl⟩⟩

/-- Any row onto an owned one. -/
theorem append_rf (w : World) (ty : TypeId) (B : Nat) (t e : TypeId) (z : Value) (m bytes : Nat) (ht : Tryz.prog.underlying t = some (.slice e)) (hinfo : (Tryz.prog.info? e).map (fun i => (i.zero, i.size, i.bytes)) = some (some z, m, bytes)) (hzs : z.cells.size = m) (hm : 0 < m)
    (v : Value) (n : Nat) (xs : List Value) (hown : w.ownsRow B e m v n xs) (sv : Value) (k : Nat) (ys : List Value) (hs : Rf w m sv k ys) (hl : (n + k) * bytes ≤ 140737488355328) (hl2 : n + k ≤ maxLen) (hbase : B ≤ w.heap.size) :
    ∃ v' w', (Builtin.append_ #[t, t] ty #[v, sv]).run Tryz.prog w = .ok v' w' ∧ w'.ownsRow B e m v' (n + k) (xs ++ ys) ∧ w.grownBy w' v.ownBlock ∧ (v'.ownBlock = v.ownBlock ∨ v'.ownBlock = some w.heap.size) := by
  obtain ⟨i0, hi, hz0, hz1, hz2⟩ := info_parts hinfo
  obtain ⟨h0, h1, h2⟩ := hs
  rcases h2 with ⟨rfl, rfl⟩ | ⟨a, cap, rfl, h3, h5, h4⟩
  · have hy : ys = [] := List.eq_nil_of_length_eq_zero (by simpa using h0)
    subst hy
    exact ⟨v, w, run_append_owned_none (P := Tryz.prog) (w := w) B t ty e i0 m ht hi v n xs hown, by simpa using hown, ⟨rfl, rfl, rfl, Nat.le_refl _, fun _ _ _ => rfl⟩, .inl rfl⟩
  · obtain ⟨v', w', hr, q1, q2, _, q4⟩ := run_append_own_at (P := Tryz.prog) w B t ty e i0 z m bytes ht hi hz0 hz1 hz2 hzs hm v n xs hown a k cap ys h0 h4 h1 hl2 hl hbase
    exact ⟨v', w', hr, q1, q2, q4⟩

theorem wpList_append_rf (w : World) {ops : Array Oper} {rest : List Oper} {o : Oper} {a : Act} {Q : Exit → Act → World → Prop} (hgd : o.guard = none) (s x : Operand) (t e : TypeId) (z : Value) (m bytes : Nat)
    (ho : o.op = .call { callee := .builtin .append, args := #[s, x], argTypes := #[t, t] }) (ht : Tryz.prog.underlying t = some (.slice e)) (hinfo : (Tryz.prog.info? e).map (fun i => (i.zero, i.size, i.bytes)) = some (some z, m, bytes)) (hzs : z.cells.size = m) (hm : 0 < m)
    (B : Nat) (v : Value) (n : Nat) (xs : List Value) (hs : a.eval s = v) (hown : w.ownsRow B e m v n xs)
    (sv : Value) (k : Nat) (ys : List Value) (hx : a.eval x = sv) (hsn : Rf w m sv k ys) (hl : (n + k) * bytes ≤ 140737488355328) (hl2 : n + k ≤ maxLen) (hbase : B ≤ w.heap.size)
    (h : ∀ ao c w', Hid (w'.ownsRow B e m (.slice ao (n + k) c) (n + k) (xs ++ ys)) → Hid (w.grownBy w' v.ownBlock) → Hid ((Value.slice ao (n + k) c).ownBlock = v.ownBlock ∨ (Value.slice ao (n + k) c).ownBlock = some w.heap.size) → wpList Tryz.prog ops Q rest (a.put o.dst (.slice ao (n + k) c)) w') : wpList Tryz.prog ops Q (o :: rest) a w := by
  refine wpList_plain hgd fun K hK => ?_
  obtain ⟨v', w', hr, h2, h3, h4⟩ := append_rf w o.type B t e z m bytes ht hinfo hzs hm v n xs hown sv k ys hsn hl hl2 hbase
  obtain ⟨ao, c, rfl⟩ := own_shape h2
  unfold Oper.wp execOp
  simp only [ho, resolve, invoke, builtin, Sem.run_bind, Sem.run_pure, Result.andThen_ok, List.map_toArray, List.map_cons, List.map_nil, hs, hx, hr]
  exact hK _ _ (h ao c w' (hid h2) (hid h3) (hid h4))

theorem step_append_rf (w : World) {ops : Array Oper} {o : Oper} {a : Act} {K : Act → World → Prop} {Q : Exit → Act → World → Prop} {E : Prop} (hgd : o.guard = none) (s x : Operand) (t e : TypeId) (z : Value) (m bytes : Nat)
    (ho : o.op = .call { callee := .builtin .append, args := #[s, x], argTypes := #[t, t] }) (ht : Tryz.prog.underlying t = some (.slice e)) (hinfo : (Tryz.prog.info? e).map (fun i => (i.zero, i.size, i.bytes)) = some (some z, m, bytes)) (hzs : z.cells.size = m) (hm : 0 < m)
    (B : Nat) (v : Value) (n : Nat) (xs : List Value) (hs : a.eval s = v) (hown : w.ownsRow B e m v n xs)
    (sv : Value) (k : Nat) (ys : List Value) (hx : a.eval x = sv) (hsn : Rf w m sv k ys) (hl : (n + k) * bytes ≤ 140737488355328) (hl2 : n + k ≤ maxLen) (hbase : B ≤ w.heap.size)
    (h : ∀ ao c w', Hid (w'.ownsRow B e m (.slice ao (n + k) c) (n + k) (xs ++ ys)) → Hid (w.grownBy w' v.ownBlock) → Hid ((Value.slice ao (n + k) c).ownBlock = v.ownBlock ∨ (Value.slice ao (n + k) c).ownBlock = some w.heap.size) → K (a.put o.dst (.slice ao (n + k) c)) w') :
    if Region.wanted o (yielded ops a.tmps) = true then Oper.wp Tryz.prog o a w K Q else E := by
  have hw : Region.wanted o (yielded ops a.tmps) = true := by simp [Region.wanted, hgd]
  rw [if_pos hw]
  obtain ⟨v', w', hr, h2, h3, h4⟩ := append_rf w o.type B t e z m bytes ht hinfo hzs hm v n xs hown sv k ys hsn hl hl2 hbase
  obtain ⟨ao, c, rfl⟩ := own_shape h2
  unfold Oper.wp execOp
  simp only [ho, resolve, invoke, builtin, Sem.run_bind, Sem.run_pure, Result.andThen_ok, List.map_toArray, List.map_cons, List.map_nil, hs, hx, hr]
  exact h ao c w' (hid h2) (hid h3) (hid h4)

/-- The cells of one element of a flat row. -/
theorem flat_get {α : Type} (f : α → List Value) (m : Nat) (hf : ∀ x, (f x).length = m) : ∀ (xs : List α) (k c : Nat), c < m → (xs.flatMap f)[k * m + c]? = (xs[k]?).bind (fun x => (f x)[c]?)
  | [], k, c, _ => by simp
  | x :: xs, 0, c, h => by simp [List.getElem?_append_left, hf, h]
  | x :: xs, k + 1, c, h => by
    have ih := flat_get f m hf xs k c h
    rw [List.flatMap_cons, List.getElem?_append_right (by rw [hf, Nat.succ_mul]; omega), hf]
    have e : (k + 1) * m + c - m = k * m + c := by rw [Nat.succ_mul]; omega
    rw [e, ih]
    simp

theorem flat_len {α : Type} (f : α → List Value) (m : Nat) (hf : ∀ x, (f x).length = m) : ∀ xs : List α, (xs.flatMap f).length = xs.length * m
  | [] => by simp
  | x :: xs => by rw [List.flatMap_cons, List.length_append, hf, flat_len f m hf xs, List.length_cons, Nat.succ_mul]; omega

theorem add_add (a : Addr) (x y : Nat) : (a.add x).add y = a.add (x + y) := by
  unfold Addr.add
  by_cases hx : x = 0
  · subst hx; simp
  · by_cases hy : y = 0
    · subst hy; simp
    · simp [hx, hy, Nat.add_assoc]

/-- A slice whose elements are read, element by element. -/
theorem rf_of_trod {H : Type} {enc : TypeId × Value → H} {W : World} {base : Nat} {held : Bool} {fuel : Nat} {t e : TypeId} {cs : List Value} {x : DataW H × List MemPlace} {α : Type} [Inhabited α] (f : α → List Value) (p : α → Prop) (m : Nat) (hf : ∀ y, (f y).length = m) (h1 : ∀ y, ∀ u ∈ f y, u.oneCell' = true)
    (ht : Tryz.prog.underlying t = some (.slice e)) (hm : Tryz.prog.cellsOf e = m) (hel : ∀ n cs' x', DataW.trod enc Tryz.prog W base (fun _ => true) held n e cs' = some x' → ∃ y : α, p y ∧ cs' = f y)
    (h : DataW.trod enc Tryz.prog W base (fun _ => true) held fuel t cs = some x) : ∃ (v : Value) (ys : List α), cs = [v] ∧ Rf W m v ys.length (ys.flatMap f) ∧ ∀ y ∈ ys, p y := by
  rcases Go.Deep.open_slice ht h with ⟨rfl, _⟩ | ⟨a, len, cap, mm, n, D, Pl, rfl, _, hl, hcm, hmm, _, hx⟩
  · exact ⟨_, [], rfl, rf_nil W m, (fun _ h => nomatch h)⟩
  · simp only [if_true] at hmm
    subst hmm
    rw [hm] at hx
    have key : ∀ i, i < len → ∃ y : α, p y ∧ ∀ c, c < m → W.cell? ((a.add (i * m)).add c) = (f y)[c]? := by
      intro i hi
      obtain ⟨cs', q1, q2⟩ := hx i (by omega)
      obtain ⟨y, hy, rfl⟩ := hel _ _ _ q2
      exact ⟨y, hy, fun c hc => (World.cells?_some q1).2.2 c hc⟩
    obtain ⟨F, hF⟩ := Go.Deep.choose_lt key
    refine ⟨_, (List.range len).map F, rfl, ⟨flat_len f m hf _, ?_, .inr ⟨a, mm, by simp, by simpa using hl, hcm, ?_⟩⟩, ?_⟩
    · intro u hu
      obtain ⟨y, _, hy⟩ := List.mem_flatMap.1 hu
      exact h1 y u hy
    · intro j u hu
      have hmp : 0 < m := by
        rcases Nat.eq_zero_or_pos m with h0 | h0
        · have hz := flat_len f m hf ((List.range len).map F)
          rw [h0, Nat.mul_zero] at hz
          rw [List.eq_nil_of_length_eq_zero hz] at hu
          simp at hu
        · exact h0
      have hj : j = j / m * m + j % m := by rw [Nat.mul_comm]; exact (Nat.div_add_mod j m).symm
      have hc : j % m < m := Nat.mod_lt _ hmp
      rw [hj, flat_get f m hf _ _ _ hc] at hu
      rw [List.getElem?_map] at hu
      have hlt : j / m < len := by
        rcases Nat.lt_or_ge (j / m) len with h | h
        · exact h
        · rw [List.getElem?_eq_none (by simpa using h)] at hu
          simp at hu
      simp [hlt] at hu
      have := (hF (j / m) hlt).2 (j % m) hc
      rw [hu, add_add, ← hj] at this
      exact this
    · intro y hy
      simp at hy
      obtain ⟨i, hi, rfl⟩ := hy
      exact (hF i hi).1

end Go.Proofs.YtlmompdfombgeabGreat

namespace Go.Proofs.YtlmompdfombgeabGreat
open Go.RowKit

/-- A number of 57 binary digits. -/
def I64 (x : Int) : Prop := -9223372036854775808 ≤ x ∧ x < 9223372036854775808

/-- A fault's cells. -/
def fcs (x : Int × Int) : List Value := [.int .i64 x.1, .int .i64 x.2]
/-- A list of faults. -/
def Fl (w : World) (v : Value) (fs : List (Int × Int)) : Prop := Rf w 2 v fs.length (fs.flatMap fcs)

/-- A list of numbers. -/
def Ln (w : World) (v : Value) (ls : List Int) : Prop := Rf w 1 v ls.length (ls.flatMap fun x => [.int .i64 x])

/-- What is picked of a file. -/
structure Pk where
  done : Int
  lv : Value
  lost : List Int
instance : Inhabited Pk := ⟨⟨0, .slice none 0 0, []⟩⟩
def Pk.ok (w : World) (p : Pk) : Prop := I64 p.done ∧ Ln w p.lv p.lost ∧ (∀ x ∈ p.lost, I64 x) ∧ p.lv.oneCell' = true
def pcs (x : Pk) : List Value := [.int .i64 x.done, x.lv]
/-- A list of picks. -/
def Pks (w : World) (v : Value) (ps : List Pk) : Prop := Rf w 2 v ps.length (ps.flatMap pcs) ∧ ∀ p ∈ ps, p.ok w

/-- A step. -/
structure Sp where
  kind : Int
  name : ByteArray
  to : ByteArray
  dv : Value
  data : List Int
  n : Int
  sv : Value
  fs : List (Int × Int)
  rv : Value
  fr : List (Int × Int)
  pn : Int
  fv : Value
  pk : List Pk
instance : Inhabited Sp := ⟨⟨0, ByteArray.empty, ByteArray.empty, .slice none 0 0, [], 0, .slice none 0 0, [], .slice none 0 0, [], 0, .slice none 0 0, []⟩⟩

def I2 (x : Int × Int) : Prop := I64 x.1 ∧ I64 x.2

structure Sp.ok (w : World) (x : Sp) : Prop where
  kind : I64 x.kind
  n : I64 x.n
  pn : I64 x.pn
  name : x.name.size ≤ maxLen
  to : x.to.size ≤ maxLen
  dt : Rf w 1 x.dv x.data.length (x.data.flatMap fun y => [.int .u8 y])
  oct : ∀ y ∈ x.data, 0 ≤ y ∧ y < 256
  fs : Fl w x.sv x.fs
  fi : ∀ y ∈ x.fs, I2 y
  fr : Fl w x.rv x.fr
  ri : ∀ y ∈ x.fr, I2 y
  pk : Pks w x.fv x.pk

def scs (x : Sp) : List Value := [.int .i64 x.kind, .string x.name, .string x.to, x.dv, .int .i64 x.n, x.sv, x.rv, .int .i64 x.pn, x.fv]

/-- A script. -/
def Sps (w : World) (v : Value) (xs : List Sp) : Prop := Rf w 9 v xs.length (xs.flatMap scs) ∧ ∀ x ∈ xs, x.ok w

theorem Rf.one {w : World} {m : Nat} {v : Value} {n : Nat} {cs : List Value} (h : Rf w m v n cs) : v.oneCell' = true := by
  obtain ⟨ao, cap, rfl, _⟩ := h.shape
  rfl

theorem Tryz.cells5 : Tryz.prog.cellsOf 5 = 1 := by kernel_rfl
theorem Tryz.cells3 : Tryz.prog.cellsOf 3 = 1 := by kernel_rfl
theorem Tryz.cells9 : Tryz.prog.cellsOf 9 = 1 := by kernel_rfl
theorem Tryz.cells27 : Tryz.prog.cellsOf 27 = 1 := by kernel_rfl
theorem Tryz.cells28 : Tryz.prog.cellsOf 28 = 1 := by kernel_rfl
theorem Tryz.cells30 : Tryz.prog.cellsOf 30 = 2 := by kernel_rfl
theorem Tryz.cells23 : Tryz.prog.cellsOf 23 = 1 := by kernel_rfl
theorem Tryz.cells25 : Tryz.prog.cellsOf 25 = 2 := by kernel_rfl
theorem Tryz.cells32 : Tryz.prog.cellsOf 32 = 9 := by kernel_rfl
theorem Tryz.cells57 : Tryz.prog.cellsOf 57 = 1 := by kernel_rfl
theorem Tryz.cells77 : Tryz.prog.cellsOf 77 = 2 := by kernel_rfl
theorem Tryz.cells140 : Tryz.prog.cellsOf 140 = 2 := by kernel_rfl

section
variable {H : Type} {enc : TypeId × Value → H} {W : World} {base : Nat} {held : Bool} {fuel : Nat} {cs : List Value} {x : DataW H × List MemPlace}

theorem int_of_trod (h : DataW.trod enc Tryz.prog W base (fun _ => true) held fuel 3 cs = some x) : ∃ y : Int, I64 y ∧ cs = [.int .i64 y] := by
  obtain ⟨a0, e0, _, w0⟩ := DataW.trod_int Tryz.underlying3 h
  have b := bounds_i64 w0
  exact ⟨a0, ⟨b.1, by omega⟩, e0⟩

theorem byte_of_trod (h : DataW.trod enc Tryz.prog W base (fun _ => true) held fuel 5 cs = some x) : ∃ y : Int, (0 ≤ y ∧ y < 256) ∧ cs = [.int .u8 y] := by
  obtain ⟨a0, e0, _, w0⟩ := DataW.trod_int Tryz.underlying5 h
  have b := bounds_u8 w0
  exact ⟨a0, ⟨b.1, by omega⟩, e0⟩

theorem str_of_trod (h : DataW.trod enc Tryz.prog W base (fun _ => true) held fuel 9 cs = some x) : ∃ y : ByteArray, y.size ≤ maxLen ∧ cs = [.string y] := by
  obtain ⟨s, e4, _, w4⟩ := DataW.trod_string Tryz.underlying9 h
  exact ⟨s, w4, e4⟩

set_option maxRecDepth 100000 in
theorem fault_of_trod (h : DataW.trod enc Tryz.prog W base (fun _ => true) held fuel 140 cs = some x) : ∃ y : Int × Int, I2 y ∧ cs = fcs y := by
  obtain ⟨xs, n, _, rfl, hl, hlen, hf⟩ := DataW.trod_struct Tryz.underlying140 h
  rw [Tryz.cells140] at hl
  match cs, hl, xs, hlen with
  | [c0, c1], _, [y0, y1], _ =>
    have f0 : DataW.trod enc Tryz.prog W base (fun _ => true) held n 3 (([c0, c1].drop 0).take (Tryz.prog.cellsOf 3)) = some y0 := hf 0 _ rfl
    have f1 : DataW.trod enc Tryz.prog W base (fun _ => true) held n 3 (([c0, c1].drop 1).take (Tryz.prog.cellsOf 3)) = some y1 := hf 1 _ rfl
    rw [Tryz.cells3] at f0 f1
    obtain ⟨a0, b0, e0⟩ := int_of_trod f0
    obtain ⟨a1, b1, e1⟩ := int_of_trod f1
    simp at e0 e1
    subst e0 e1
    exact ⟨(a0, a1), ⟨b0, b1⟩, rfl⟩

theorem faults_of_trod (h : DataW.trod enc Tryz.prog W base (fun _ => true) held fuel 28 cs = some x) : ∃ v ys, cs = [v] ∧ Fl W v ys ∧ ∀ y ∈ ys, I2 y :=
  rf_of_trod fcs I2 2 (fun _ => rfl) (fun y u hu => by simp [fcs] at hu; rcases hu with rfl | rfl <;> rfl) Tryz.underlying28 Tryz.cells140 (fun _ _ _ h => fault_of_trod h) h

theorem bytes_of_trod (h : DataW.trod enc Tryz.prog W base (fun _ => true) held fuel 27 cs = some x) : ∃ (v : Value) (ys : List Int), cs = [v] ∧ Rf W 1 v ys.length (ys.flatMap fun y => [.int .u8 y]) ∧ ∀ y ∈ ys, 0 ≤ y ∧ y < 256 :=
  rf_of_trod (fun y : Int => [.int .u8 y]) (fun y => 0 ≤ y ∧ y < 256) 1 (fun _ => rfl) (fun y u hu => by simp at hu; subst hu; rfl) Tryz.underlying27 Tryz.cells5 (fun _ _ _ h => byte_of_trod h) h

theorem ints_of_trod (h : DataW.trod enc Tryz.prog W base (fun _ => true) held fuel 57 cs = some x) : ∃ v ys, cs = [v] ∧ Ln W v ys ∧ ∀ y ∈ ys, I64 y :=
  rf_of_trod (fun y : Int => [.int .i64 y]) I64 1 (fun _ => rfl) (fun y u hu => by simp at hu; subst hu; rfl) Tryz.underlying57 Tryz.cells3 (fun _ _ _ h => int_of_trod h) h

set_option maxRecDepth 100000 in
theorem pick_of_trod (h : DataW.trod enc Tryz.prog W base (fun _ => true) held fuel 77 cs = some x) : ∃ y : Pk, y.ok W ∧ cs = pcs y := by
  obtain ⟨xs, n, _, rfl, hl, hlen, hf⟩ := DataW.trod_struct Tryz.underlying77 h
  rw [Tryz.cells77] at hl
  match cs, hl, xs, hlen with
  | [c0, c1], _, [y0, y1], _ =>
    have f0 : DataW.trod enc Tryz.prog W base (fun _ => true) held n 3 (([c0, c1].drop 0).take (Tryz.prog.cellsOf 3)) = some y0 := hf 0 _ rfl
    have f1 : DataW.trod enc Tryz.prog W base (fun _ => true) held n 57 (([c0, c1].drop 1).take (Tryz.prog.cellsOf 57)) = some y1 := hf 1 _ rfl
    rw [Tryz.cells3] at f0
    rw [Tryz.cells57] at f1
    obtain ⟨a0, b0, e0⟩ := int_of_trod f0
    obtain ⟨v1, l1, e1, r1, b1⟩ := ints_of_trod f1
    simp at e0 e1
    subst e0 e1
    exact ⟨⟨a0, c1, l1⟩, ⟨b0, r1, b1, Rf.one r1⟩, rfl⟩

theorem picks_of_trod (h : DataW.trod enc Tryz.prog W base (fun _ => true) held fuel 23 cs = some x) : ∃ v ys, cs = [v] ∧ Pks W v ys := by
  obtain ⟨v, ys, e, h1, h2⟩ := rf_of_trod (fun p : Pk => if p.lv.oneCell' = true then pcs p else [.int .i64 0, .int .i64 0]) (fun p : Pk => p.ok W) 2 (fun y => by split <;> rfl)
    (fun y u hu => by
      split at hu
      · rename_i hy; simp [pcs] at hu; rcases hu with rfl | rfl; rfl; exact hy
      · simp at hu; subst hu; rfl) Tryz.underlying23 Tryz.cells77 (fun _ _ _ h => by obtain ⟨y, a, b⟩ := pick_of_trod h; exact ⟨y, a, by rw [if_pos a.2.2.2]; exact b⟩) h
  refine ⟨v, ys, e, ?_, h2⟩
  have : ys.flatMap (fun p : Pk => if p.lv.oneCell' = true then pcs p else [.int .i64 0, .int .i64 0]) = ys.flatMap pcs := by
    clear h1 e
    induction ys with
    | nil => rfl
    | cons y ys ih => rw [List.flatMap_cons, List.flatMap_cons, ih (fun p hp => h2 p (List.mem_cons_of_mem _ hp)), if_pos (h2 y (List.mem_cons_self ..)).2.2.2]
  rw [this] at h1
  exact h1

set_option maxRecDepth 100000 in
theorem step_of_trod (h : DataW.trod enc Tryz.prog W base (fun _ => true) held fuel 32 cs = some x) : ∃ y : Sp, y.ok W ∧ cs = scs y := by
  obtain ⟨xs, n, _, rfl, hl, hlen, hf⟩ := DataW.trod_struct Tryz.underlying32 h
  rw [Tryz.cells32] at hl
  match cs, hl, xs, hlen with
  | [c0, c1, c2, c3, c4, c5, c6, c7, c8], _, [y0, y1, y2, y3, y4, y5, y6], _ =>
    have f0 : DataW.trod enc Tryz.prog W base (fun _ => true) held n 3 (([c0, c1, c2, c3, c4, c5, c6, c7, c8].drop 0).take (Tryz.prog.cellsOf 3)) = some y0 := hf 0 _ rfl
    have f1 : DataW.trod enc Tryz.prog W base (fun _ => true) held n 9 (([c0, c1, c2, c3, c4, c5, c6, c7, c8].drop 1).take (Tryz.prog.cellsOf 9)) = some y1 := hf 1 _ rfl
    have f2 : DataW.trod enc Tryz.prog W base (fun _ => true) held n 9 (([c0, c1, c2, c3, c4, c5, c6, c7, c8].drop 2).take (Tryz.prog.cellsOf 9)) = some y2 := hf 2 _ rfl
    have f3 : DataW.trod enc Tryz.prog W base (fun _ => true) held n 27 (([c0, c1, c2, c3, c4, c5, c6, c7, c8].drop 3).take (Tryz.prog.cellsOf 27)) = some y3 := hf 3 _ rfl
    have f4 : DataW.trod enc Tryz.prog W base (fun _ => true) held n 3 (([c0, c1, c2, c3, c4, c5, c6, c7, c8].drop 4).take (Tryz.prog.cellsOf 3)) = some y4 := hf 4 _ rfl
    have f5 : DataW.trod enc Tryz.prog W base (fun _ => true) held n 30 (([c0, c1, c2, c3, c4, c5, c6, c7, c8].drop 5).take (Tryz.prog.cellsOf 30)) = some y5 := hf 5 _ rfl
    have f6 : DataW.trod enc Tryz.prog W base (fun _ => true) held n 25 (([c0, c1, c2, c3, c4, c5, c6, c7, c8].drop 7).take (Tryz.prog.cellsOf 25)) = some y6 := hf 6 _ rfl
    rw [Tryz.cells3] at f0 f4
    rw [Tryz.cells9] at f1 f2
    rw [Tryz.cells27] at f3
    rw [Tryz.cells30] at f5
    rw [Tryz.cells25] at f6
    obtain ⟨a0, b0, e0⟩ := int_of_trod f0
    obtain ⟨a1, b1, e1⟩ := str_of_trod f1
    obtain ⟨a2, b2, e2⟩ := str_of_trod f2
    obtain ⟨v3, l3, e3, r3, b3⟩ := bytes_of_trod f3
    obtain ⟨a4, b4, e4⟩ := int_of_trod f4
    obtain ⟨xs5, n5, _, rfl, hl5, hlen5, hf5⟩ := DataW.trod_struct Tryz.underlying30 f5
    obtain ⟨xs6, n6, _, rfl, hl6, hlen6, hf6⟩ := DataW.trod_struct Tryz.underlying25 f6
    match xs5, hlen5, xs6, hlen6 with
    | [p0, p1], _, [q0, q1], _ =>
      have g0 : DataW.trod enc Tryz.prog W base (fun _ => true) held n5 28 (([c5, c6].drop 0).take (Tryz.prog.cellsOf 28)) = some p0 := hf5 0 _ rfl
      have g1 : DataW.trod enc Tryz.prog W base (fun _ => true) held n5 28 (([c5, c6].drop 1).take (Tryz.prog.cellsOf 28)) = some p1 := hf5 1 _ rfl
      have k0 : DataW.trod enc Tryz.prog W base (fun _ => true) held n6 3 (([c7, c8].drop 0).take (Tryz.prog.cellsOf 3)) = some q0 := hf6 0 _ rfl
      have k1 : DataW.trod enc Tryz.prog W base (fun _ => true) held n6 23 (([c7, c8].drop 1).take (Tryz.prog.cellsOf 23)) = some q1 := hf6 1 _ rfl
      rw [Tryz.cells28] at g0 g1
      rw [Tryz.cells3] at k0
      rw [Tryz.cells23] at k1
      obtain ⟨v5, l5, e5, r5, b5⟩ := faults_of_trod g0
      obtain ⟨v6, l6, e6, r6, b6⟩ := faults_of_trod g1
      obtain ⟨a7, b7, e7⟩ := int_of_trod k0
      obtain ⟨v8, l8, e8, r8⟩ := picks_of_trod k1
      simp at e0 e1 e2 e3 e4 e5 e6 e7 e8
      subst e0 e1 e2 e3 e4 e5 e6 e7 e8
      exact ⟨⟨a0, a1, a2, c3, l3, a4, c5, l5, c6, l6, a7, c8, l8⟩, ⟨b0, b4, b7, b1, b2, r3, b3, r5, b5, r6, b6, r8⟩, rfl⟩

theorem Sp.ok.ones {w : World} {x : Sp} (h : x.ok w) : ∀ u ∈ scs x, u.oneCell' = true := by
  have h1 := Rf.one h.dt
  have h2 := Rf.one h.fs
  have h3 := Rf.one h.fr
  have h4 := Rf.one h.pk.1
  intro u hu
  simp [scs] at hu
  rcases hu with rfl | rfl | rfl | rfl | rfl | rfl | rfl | rfl | rfl <;> first | rfl | assumption

theorem steps_of_trod (h : DataW.trod enc Tryz.prog W base (fun _ => true) held fuel 22 cs = some x) : ∃ v ys, cs = [v] ∧ Sps W v ys := by
  obtain ⟨v, ys, e, h1, h2⟩ := rf_of_trod (fun p : Sp => if (scs p).all Value.oneCell' = true then scs p else List.replicate 9 (.int .i64 0)) (fun p : Sp => p.ok W) 9 (fun y => by split <;> rfl)
    (fun y u hu => by
      split at hu
      · rename_i hy; rw [List.all_eq_true] at hy; exact hy u hu
      · rw [List.eq_of_mem_replicate hu]; rfl) Tryz.underlying22 Tryz.cells32 (fun _ _ _ h => by obtain ⟨y, a, b⟩ := step_of_trod h; exact ⟨y, a, by rw [if_pos (List.all_eq_true.2 a.ones)]; exact b⟩) h
  refine ⟨v, ys, e, ?_, h2⟩
  have : ys.flatMap (fun p : Sp => if (scs p).all Value.oneCell' = true then scs p else List.replicate 9 (.int .i64 0)) = ys.flatMap scs := by
    clear h1 e
    induction ys with
    | nil => rfl
    | cons y ys ih => rw [List.flatMap_cons, List.flatMap_cons, ih (fun p hp => h2 p (List.mem_cons_of_mem _ hp)), if_pos (List.all_eq_true.2 (h2 y (List.mem_cons_self ..)).ones)]
  rw [this] at h1
  exact h1

end

theorem Ln.below {w w' : World} {v : Value} {ls : List Int} (h : Ln w v ls) (hk : Below w.heap.size w w') : Ln w' v ls := Rf.below h hk
theorem Fl.below {w w' : World} {v : Value} {ls : List (Int × Int)} (h : Fl w v ls) (hk : Below w.heap.size w w') : Fl w' v ls := Rf.below h hk
theorem Pks.below {w w' : World} {v : Value} {ls : List Pk} (h : Pks w v ls) (hk : Below w.heap.size w w') : Pks w' v ls := ⟨h.1.below hk, fun p hp => ⟨(h.2 p hp).1, Ln.below (h.2 p hp).2.1 hk, (h.2 p hp).2.2⟩⟩
theorem Sp.ok.below {w w' : World} {x : Sp} (h : x.ok w) (hk : Below w.heap.size w w') : x.ok w' := ⟨h.kind, h.n, h.pn, h.name, h.to, h.dt.below hk, h.oct, Rf.below h.fs hk, h.fi, Rf.below h.fr hk, h.ri, h.pk.below hk⟩
theorem Sps.below {w w' : World} {v : Value} {xs : List Sp} (h : Sps w v xs) (hk : Below w.heap.size w w') : Sps w' v xs := ⟨h.1.below hk, fun x hx => (h.2 x hx).below hk⟩

end Go.Proofs.YtlmompdfombgeabGreat

namespace Go.Proofs.YtlmompdfombgeabGreat
open Go.RowKit Go.MapKept

theorem round_eq (v n : Int) (hn : 0 < n) : (v.tmod n + n) % n = v % n ∧ -n < v.tmod n ∧ v.tmod n < n := by
  have h1 := Int.emod_nonneg v (by omega : n ≠ 0)
  have h2 := Int.emod_lt_of_pos v hn
  have h3 := Int.tmod_eq_emod (a := v) (b := n)
  have hb : (n.natAbs : Int) = n := by omega
  split at h3
  · have h4 : v.tmod n = v % n := by simpa using h3
    rw [h4]
    exact ⟨by rw [Int.add_emod_right, Int.emod_emod_of_dvd _ (Int.dvd_refl n)], by omega, by omega⟩
  · rw [hb] at h3
    rw [h3]
    refine ⟨?_, by omega, by omega⟩
    have h5 : v % n - n + n = v % n := by omega
    rw [h5, Int.emod_emod_of_dvd _ (Int.dvd_refl n)]

set_option maxRecDepth 100000 in
theorem round_any (v n : Int) (w : World) (hv : I64 v) (hn : 0 < n) (hn2 : n ≤ 1000000000) : Calls Tryz.prog 43 #[.int .i64 v, .int .i64 n] w fun x w' => x = .returned (.int .i64 (v % n)) ∧ w' = w := by
  obtain ⟨h0, h1⟩ := hv
  obtain ⟨e1, e2, e3⟩ := round_eq v n hn
  have hne : ¬ n = 0 := by omega
  have H1 := hid e1
  clear e1
  go_enter Tryz.func43, Tryz.ntmps43
  go_wp2
  go_ret
  refine ⟨?_, rfl⟩
  show Ending.returned (.int .i64 ((v.tmod n + n) % n)) = _
  rw [H1.out]

end Go.Proofs.YtlmompdfombgeabGreat

namespace Go.Proofs.YtlmompdfombgeabGreat
open Go.RowKit

/-- The cells of element k. -/
theorem Rf.elem {w : World} {α : Type} {f : α → List Value} {m : Nat} {v : Value} {xs : List α} (hf : ∀ x, (f x).length = m) (hm : 0 < m) (h : Rf w m v xs.length (xs.flatMap f)) (k : Nat) (hk : k < xs.length) :
    ∃ b off cap, v = .slice (some ⟨b, off, none⟩) xs.length cap ∧ xs.length ≤ cap ∧ cap ≤ maxLen ∧ ∀ c u, (f xs[k])[c]? = some u → w.cell? ⟨b, off + k * m + c, none⟩ = some u := by
  obtain ⟨b, off, cap, rfl, h1, h2, h3⟩ := h.lits (by omega) hm
  refine ⟨b, off, cap, rfl, h1, h2, fun c u hu => ?_⟩
  have hc : c < m := by
    rcases Nat.lt_or_ge c m with h | h
    · exact h
    · rw [List.getElem?_eq_none (by rw [hf]; exact h)] at hu
      cases hu
  have := h3 (k * m + c) u (by rw [flat_get f m hf _ _ _ hc]; simp [hk, hu])
  rwa [← Nat.add_assoc] at this

/-- A step that is not too much. -/
def Sp.small (x : Sp) : Prop := x.data.length ≤ 200000 ∧ x.name.size ≤ 200000 ∧ x.to.size ≤ 200000 ∧ x.fs.length ≤ 300 ∧ x.fr.length ≤ 300 ∧ x.pk.length ≤ 300 ∧ ∀ p ∈ x.pk, p.lost.length ≤ 300

/-- What 'much' tells. -/
def MuchPost (xs : List Sp) (x : Ending) : Prop := ∃ r, x = .returned (.bool r) ∧ (r = false → xs.length ≤ 200 ∧ ∀ x ∈ xs, x.small)

theorem muchTrue (xs : List Sp) : MuchPost xs (.returned (.bool true)) := ⟨true, rfl, fun h => by cases h⟩

set_option maxRecDepth 100000 in
set_option maxHeartbeats 1600000 in
theorem much_any (v : Value) (xs : List Sp) (w : World) (h : Sps w v xs) :
    Calls Tryz.prog 7 #[v] w fun x w' => Below w.heap.size w w' ∧ MuchPost xs x := by
  obtain ⟨ao, cap, rfl, hc, hcm⟩ := h.1.shape
  unfold maxLen at hcm
  have HS := hid h
  clear h
  by_cases h1 : 200 < xs.length
  · go_enter Tryz.func7, Tryz.ntmps7
    go_wp2
    go_ret
    exact ⟨Below.refl _ _, muchTrue xs⟩
  · go_enter Tryz.func7, Tryz.ntmps7
    go_wp2
    go_loopw [3, 4] (fun n i wr => ∃ (k t : Nat), k ≤ xs.length ∧ i = .int .i64 k ∧ n = .int .i64 t ∧ t ≤ k * 600000 ∧ Hid (Below w.heap.size w wr) ∧ Hid (∀ j x, j < k → xs[j]? = some x → x.small)) (fun _ i _ => xs.length - (intOf i).toNat)
    case atStart => exact ⟨0, 0, Nat.zero_le _, rfl, rfl, by omega, hid (Below.refl _ _), hid (fun j x h => by omega)⟩
    case round =>
      obtain ⟨k, t, hk, rfl, rfl, ht, HB, HP⟩ := hrel
      by_cases hlt : k < xs.length
      · obtain ⟨b, off, cap', e, -, -, hcell⟩ := Rf.elem (f := scs) (fun _ => rfl) (by omega) HS.out.1 k hlt
        injection e with e1 e2 e3
        subst e1 e3
        clear e2
        have hok := HS.out.2 xs[k] (List.getElem_mem hlt)
        obtain ⟨x, hxe⟩ : ∃ x, x = xs[k] := ⟨_, rfl⟩
        rw [← hxe] at hcell hok
        have HX := hid hxe
        obtain ⟨kind, name, to, dv, data, nn, sv, fs, rv, fr, pn, fv, pk⟩ := x
        obtain ⟨-, -, -, hn1, hn2, hdt, -, hfs, -, hfr, -, hpk, hpo⟩ := hok
        obtain ⟨a1, q1, e1, d1, d2⟩ := hdt.shape
        obtain ⟨a2, q2, e2, d3, d4⟩ := hfs.shape
        obtain ⟨a3, q3, e3, d5, d6⟩ := hfr.shape
        obtain ⟨a4, q4, e4, d7, d8⟩ := hpk.shape
        dsimp only at e1 e2 e3 e4 hn1 hn2
        subst e1 e2 e3 e4
        have hb := HB.out
        have cc : ∀ c u, (scs ⟨kind, name, to, .slice a1 data.length q1, data, nn, .slice a2 fs.length q2, fs, .slice a3 fr.length q3, fr, pn, .slice a4 pk.length q4, pk⟩)[c]? = some u → wr.cell? ⟨b, off + k * 9 + c, none⟩ = some u := fun c u hu => (hb.cell (World.block_lt_of_cell? _ _ (hcell c u hu))).trans (hcell c u hu)
        have c0 : wr.cell? ⟨b, off + k * 9, none⟩ = _ := cc 0 _ rfl
        have c1 := cc 1 _ rfl
        have c2 := cc 2 _ rfl
        have c3 := cc 3 _ rfl
        have c4 := cc 4 _ rfl
        have c5 := cc 5 _ rfl
        have c6 := cc 6 _ rfl
        have c7 := cc 7 _ rfl
        have c8 := cc 8 _ rfl
        dsimp only at d1 d2 d3 d4 d5 d6 d7 d8 hpk hpo
        unfold maxLen at d2 d4 d6 d8 hn1 hn2
        have HK := hid (And.intro hpk hpo)
        clear hcell hdt hfs hfr hpk hpo hb cc hxe

        by_cases z1 : 200000 < data.length
        · go_wp2
          go_ret
          exact ⟨HB.out.alloc (HB.out.size) _, muchTrue xs⟩
        by_cases z2 : 200000 < name.size
        · go_wp2
          go_ret
          exact ⟨HB.out.alloc (HB.out.size) _, muchTrue xs⟩
        by_cases z3 : 200000 < to.size
        · go_wp2
          go_ret
          exact ⟨HB.out.alloc (HB.out.size) _, muchTrue xs⟩
        by_cases z4 : 300 < fs.length
        · go_wp2
          go_ret
          exact ⟨HB.out.alloc (HB.out.size) _, muchTrue xs⟩
        by_cases z5 : 300 < fr.length
        · go_wp2
          go_ret
          exact ⟨HB.out.alloc (HB.out.size) _, muchTrue xs⟩
        by_cases z6 : 300 < pk.length
        · go_wp2
          go_ret
          exact ⟨HB.out.alloc (HB.out.size) _, muchTrue xs⟩
        go_wp2
        go_loop [6] (fun i => ∃ (j : Nat), j ≤ pk.length ∧ i = .int .i64 j ∧ Hid (∀ i p, i < j → pk[i]? = some p → p.lost.length ≤ 300)) (fun i => pk.length - (intOf i).toNat)
        case atStart => exact ⟨0, Nat.zero_le _, rfl, hid (fun j x h => by omega)⟩
        case round =>
          obtain ⟨j, hj, rfl, HJ⟩ := hrel
          by_cases hjl : j < pk.length
          · obtain ⟨b2, off2, cap2, e, -, -, hcell⟩ := Rf.elem (f := pcs) (fun _ => rfl) (by omega) HK.out.1 j hjl
            injection e with e1 e2 e3
            subst e1 e3
            clear e2
            have hpok := HK.out.2 pk[j] (List.getElem_mem hjl)
            obtain ⟨y, hye⟩ : ∃ y, y = pk[j] := ⟨_, rfl⟩
            rw [← hye] at hcell hpok
            obtain ⟨dn, lv, lost⟩ := y
            obtain ⟨-, hln, -, -⟩ := hpok
            obtain ⟨a5, q5, e5, d9, d10⟩ := hln.shape
            dsimp only at e5
            subst e5
            have y1 := hcell 1 _ rfl
            have hb1 := HB.out.alloc (HB.out.size) (.cells #[.int .i64 kind, .string name, .string to, .slice a1 data.length q1, .int .i64 nn, .slice a2 fs.length q2, .slice a3 fr.length q3, .int .i64 pn, .slice (some ⟨b2, off2, none⟩) pk.length q4] 32)
            have y2 := (hb1.cell (World.block_lt_of_cell? _ _ y1)).trans y1
            have HY := hid hye
            dsimp only at d9 d10
            unfold maxLen at d10
            clear hcell hln y1 hb1 hye
            by_cases z7 : 300 < lost.length
            · go_wp2
              go_ret
              exact ⟨HB.out.alloc (HB.out.size) _, muchTrue xs⟩
            · go_wp2
              go_round
              case rel =>
                refine ⟨j + 1, by omega, by go_num, hid (fun i p hi hp => ?_)⟩
                by_cases e : i = j
                · subst e
                  simp [hjl] at hp
                  rw [← HY.out] at hp
                  rw [← hp]
                  exact (by omega : lost.length ≤ 300)
                · exact HJ.out i p (by omega) hp
              case measure => simp [intOf]; omega
          · go_wp2
            go_roundw
            case rel =>
              refine ⟨k + 1, t + data.length + name.size + to.size, by omega, by go_num, by go_num, by omega, hid (HB.out.alloc HB.out.size _), hid (fun i p hi hp => ?_)⟩
              by_cases e : i = k
              · subst e
                simp [hlt] at hp
                rw [← HX.out] at hp
                rw [← hp]
                refine ⟨by dsimp only; omega, by dsimp only; omega, by dsimp only; omega, by dsimp only; omega, by dsimp only; omega, by dsimp only; omega, fun p hp2 => ?_⟩
                obtain ⟨i2, hi2, rfl⟩ := List.getElem_of_mem hp2
                dsimp only at hi2
                exact HJ.out i2 _ (by omega) (by simp [hi2])
              · exact HP.out i p (by omega) hp
            case measure => simp [intOf]; omega
      · obtain rfl : k = xs.length := by omega
        go_wp2
        go_ret
        refine ⟨HB.out, _, rfl, ?_⟩
        intro h
        refine ⟨by omega, fun x hx => ?_⟩
        obtain ⟨i, hi, rfl⟩ := List.getElem_of_mem hx
        exact HP.out i _ hi (by simp [hi])

end Go.Proofs.YtlmompdfombgeabGreat
