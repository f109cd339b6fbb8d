import Derived.ProofKit
import Derived.OpenShut
import Derived.Deep.Slices
import Derived.Test.YtdnlfacfleemeaaK14
import Derived.Test.YtdnlfacfleemeaaK04
import Derived.Test.YtdnlfacfleemeaaK05
import Derived.Test.YtdnlfacfleemeaaK12
import Derived.Deep.Cut
import Derived.Deep.Strs
namespace Go.Proofs.Ytdnlfacfleemeaa
open Go.RowKit

theorem Try.cells5 : Try.prog.cellsOf 5 = 1 := by kernel_rfl

/-- An argument of bytes. -/
theorem bytes_of_trod {H : Type} {enc : TypeId × Value → H} {W : World} {base : Nat} {held : Bool} {ao : Option Addr} {len cap : Nat} {d : DataW H} {p : List MemPlace}
    (h : DataW.Trod enc Try.prog W base (fun _ => true) held 34 (.slice ao len cap) d p) : ∃ bs, Sn W (.slice ao len cap) bs ∧ Oct bs ∧ bs.length ≤ 9223372036854775807 := by
  obtain ⟨fuel, hf⟩ := h
  rcases Go.Deep.open_slice Try.underlying34 hf with ⟨hcs, _⟩ | ⟨a, len', cap', m, n, D, Pl, hcs, _, hl, hm, hmm, _, hx⟩
  · simp [Value.cells] at hcs
    obtain ⟨rfl, rfl, rfl⟩ := hcs
    exact ⟨[], sn_nil _, (fun x hx => nomatch hx), by simp⟩
  · simp [Value.cells] at hcs
    obtain ⟨rfl, rfl, rfl⟩ := hcs
    simp only [if_true] at hmm
    obtain rfl : cap = m := hmm.symm
    rw [Try.cells5] at hx
    have key : ∀ i, i < len → ∃ y : Int, (0 ≤ y ∧ y < 256) ∧ W.cell? ((a.add (i * 1)).add 0) = some (.int .u8 y) := by
      intro i hi
      obtain ⟨cs, h1, h2⟩ := hx i (by omega)
      obtain ⟨y, e0, _, w0⟩ := DataW.trod_int Try.underlying5 h2
      subst e0
      have b0 := bounds_u8 w0
      exact ⟨y, ⟨b0.1, by omega⟩, (World.cells?_some h1).2.2 0 (by omega)⟩
    obtain ⟨F, hF⟩ := Go.Deep.choose_lt key
    unfold maxLen at hm
    refine ⟨(List.range len).map F, ⟨⟨some a, cap, by simp, by simpa using hl, ?_⟩, .inr ⟨_, _, _, rfl⟩⟩, ?_, by simp; omega⟩
    · intro hne
      have hlen : 0 < len := by
        rcases Nat.eq_zero_or_pos len with h | h
        · subst h; simp at hne
        · exact h
      have h00 := (hF 0 hlen).2
      obtain ⟨b, off, rfl⟩ : ∃ b off, a = ⟨b, off, none⟩ := by
        obtain ⟨b, off, spot⟩ := a
        have hspot : spot = none := by simpa [Addr.add] using World.cell?_spot h00
        subst hspot
        exact ⟨b, off, rfl⟩
      refine ⟨b, off, rfl, ?_⟩
      intro j x hj
      rw [List.getElem?_map, Option.map_eq_some_iff] at hj
      obtain ⟨i, hi, rfl⟩ := hj
      have hij : i = j ∧ j < len := by
        rw [List.getElem?_eq_some_iff] at hi
        obtain ⟨q1, q2⟩ := hi
        simp at q1 q2
        exact ⟨q2.symm, q1⟩
      obtain ⟨rfl, hi2⟩ := hij
      have k := (hF i hi2).2
      rw [add_lit, add_lit] at k
      simpa using k
    · intro x hx2
      simp at hx2
      obtain ⟨i, hi, rfl⟩ := hx2
      exact (hF i hi).1

end Go.Proofs.Ytdnlfacfleemeaa

namespace Go.Proofs.Ytdnlfacfleemeaa
open Go.RowKit

/-- v is a slice of n elements of m cells each, and these are its cells. -/
def Rf (w : World) (m : Nat) (v : Value) (n : Nat) (cs : List Value) : Prop :=
  cs.length = n * m ∧ (∀ u ∈ cs, u.oneCell' = true) ∧ ((v = .slice none 0 0 ∧ n = 0) ∨ ∃ a cap, v = .slice (some a) n cap ∧ n ≤ cap ∧ cap ≤ maxLen ∧ ∀ j u, cs[j]? = some u → w.cell? (a.add j) = some u)

theorem rf_nil (w : World) (m : Nat) : Rf w m (.slice none 0 0) 0 [] := ⟨by simp, (fun _ h => nomatch h), .inl ⟨rfl, rfl⟩⟩

theorem Rf.shape {w : World} {m : Nat} {v : Value} {n : Nat} {cs : List Value} (h : Rf w m v n cs) : ∃ ao cap, v = .slice ao n cap ∧ n ≤ cap ∧ cap ≤ maxLen := by
  rcases h.2.2 with ⟨rfl, rfl⟩ | ⟨a, cap, rfl, h1, h2, _⟩
  · exact ⟨none, 0, rfl, Nat.le_refl _, by simp [maxLen]⟩
  · exact ⟨_, _, rfl, h1, h2⟩

theorem Rf.lits {w : World} {m : Nat} {v : Value} {n : Nat} {cs : List Value} (h : Rf w m v n cs) (h0 : 0 < n) (hm : 0 < m) : ∃ b off cap, v = .slice (some ⟨b, off, none⟩) n cap ∧ n ≤ cap ∧ cap ≤ maxLen ∧ ∀ j u, cs[j]? = some u → w.cell? ⟨b, off + j, none⟩ = some u := by
  obtain ⟨hl, -, h2⟩ := h
  rcases h2 with ⟨rfl, rfl⟩ | ⟨a, cap, rfl, h3, h5, h4⟩
  · omega
  · obtain ⟨b, off, spot⟩ := a
    have hpos : 0 < cs.length := by rw [hl]; exact Nat.mul_pos h0 hm
    have c0 := h4 0 cs[0] (by simp [hpos])
    have hspot : spot = none := by simpa [Addr.add] using World.cell?_spot c0
    subst hspot
    refine ⟨b, off, cap, rfl, h3, h5, fun j u hu => ?_⟩
    have := h4 j u hu
    rwa [add_lit] at this

theorem Rf.kept {w w' : World} {m : Nat} {v : Value} {n : Nat} {cs : List Value} {S : Nat → Prop} (h : Rf w m v n cs) (hk : Kept S w w') (hn : ∀ k, v.ownBlock = some k → ¬ S k) : Rf w' m v n cs := by
  obtain ⟨h0, h1, h2⟩ := h
  refine ⟨h0, h1, ?_⟩
  rcases h2 with h2 | ⟨a, cap, rfl, h3, h5, h4⟩
  · exact .inl h2
  · refine .inr ⟨a, cap, rfl, h3, h5, fun j u hu => hk.cell (h4 j u hu) ?_⟩
    have e : (a.add j).block = a.block := by unfold Addr.add; split <;> rfl
    rw [e]
    exact hn _ rfl

theorem Rf.below {w w' : World} {m : Nat} {v : Value} {n : Nat} {cs : List Value} (h : Rf w m v n cs) (hk : Below w.heap.size w w') : Rf w' m v n cs := h.kept (Kept.ofBelow hk) (fun _ _ h => h)

theorem rf_of_owns {w : World} {B : Nat} {e : TypeId} {m : Nat} {v : Value} {n : Nat} {xs : List Value} (h : w.ownsRow B e m v n xs) (h1 : ∀ u ∈ xs, u.oneCell' = true) : Rf w m v n xs := by
  refine ⟨h.1, h1, ?_⟩
  rcases h.2 with h0 | ⟨g, cap, cur, rfl, hb, hg, hc, hm, hs, ht⟩
  · exact .inl h0
  · refine .inr ⟨_, cap, rfl, hc, hm, fun j u hu => ?_⟩
    exact h.cells (g := g) rfl j u hu

theorem Rf.sl {w : World} {v : Value} {bs : List Int} {n : Nat} (h : Rf w 1 v n (B8 bs)) : Sn w v bs := by
  have hl : bs.length = n := by simpa using h.1
  subst hl
  rcases Nat.eq_zero_or_pos bs.length with h0 | h0
  · obtain ⟨-, -, h2⟩ := h
    have hb : bs = [] := List.eq_nil_of_length_eq_zero h0
    subst hb
    rcases h2 with ⟨rfl, _⟩ | ⟨a, cap, rfl, h3, _⟩
    · exact sn_nil w
    · exact ⟨⟨_, cap, rfl, h3, fun h => absurd rfl h⟩, .inr ⟨_, _, _, rfl⟩⟩
  · obtain ⟨b, off, cap, rfl, h3, h5, h4⟩ := h.lits h0 (by omega)
    exact ⟨⟨_, cap, rfl, h3, fun _ => ⟨b, off, rfl, fun j x hx => h4 j _ (by simp [B8, hx])⟩⟩, .inr ⟨_, _, _, rfl⟩⟩

/-- Any row onto an owned one. -/
theorem append_rf (w : World) (ty : TypeId) (B : Nat) (t e : TypeId) (z : Value) (m bytes : Nat) (ht : Try.prog.underlying t = some (.slice e)) (hinfo : (Try.prog.info? e).map (fun i => (i.zero, i.size, i.bytes)) = some (some z, m, bytes)) (hzs : z.cells.size = m) (hm : 0 < m)
    (v : Value) (n : Nat) (xs : List Value) (hown : w.ownsRow B e m v n xs) (sv : Value) (k : Nat) (ys : List Value) (hs : Rf w m sv k ys) (hl : (n + k) * bytes ≤ 140737488355328) (hl2 : n + k ≤ maxLen) (hbase : B ≤ w.heap.size) :
    ∃ v' w', (Builtin.append_ #[t, t] ty #[v, sv]).run Try.prog w = .ok v' w' ∧ w'.ownsRow B e m v' (n + k) (xs ++ ys) ∧ w.grownBy w' v.ownBlock ∧ (v'.ownBlock = v.ownBlock ∨ v'.ownBlock = some w.heap.size) := by
  obtain ⟨i0, hi, hz0, hz1, hz2⟩ := info_parts hinfo
  obtain ⟨h0, h1, h2⟩ := hs
  rcases h2 with ⟨rfl, rfl⟩ | ⟨a, cap, rfl, h3, h5, h4⟩
  · have hy : ys = [] := List.eq_nil_of_length_eq_zero (by simpa using h0)
    subst hy
    exact ⟨v, w, run_append_owned_none (P := Try.prog) (w := w) B t ty e i0 m ht hi v n xs hown, by simpa using hown, ⟨rfl, rfl, rfl, Nat.le_refl _, fun _ _ _ => rfl⟩, .inl rfl⟩
  · obtain ⟨v', w', hr, q1, q2, _, q4⟩ := run_append_own_at (P := Try.prog) w B t ty e i0 z m bytes ht hi hz0 hz1 hz2 hzs hm v n xs hown a k cap ys h0 h4 h1 hl2 hl hbase
    exact ⟨v', w', hr, q1, q2, q4⟩

theorem wpList_append_rf (w : World) {ops : Array Oper} {rest : List Oper} {o : Oper} {a : Act} {Q : Exit → Act → World → Prop} (hgd : o.guard = none) (s x : Operand) (t e : TypeId) (z : Value) (m bytes : Nat)
    (ho : o.op = .call { callee := .builtin .append, args := #[s, x], argTypes := #[t, t] }) (ht : Try.prog.underlying t = some (.slice e)) (hinfo : (Try.prog.info? e).map (fun i => (i.zero, i.size, i.bytes)) = some (some z, m, bytes)) (hzs : z.cells.size = m) (hm : 0 < m)
    (B : Nat) (v : Value) (n : Nat) (xs : List Value) (hs : a.eval s = v) (hown : w.ownsRow B e m v n xs)
    (sv : Value) (k : Nat) (ys : List Value) (hx : a.eval x = sv) (hsn : Rf w m sv k ys) (hl : (n + k) * bytes ≤ 140737488355328) (hl2 : n + k ≤ maxLen) (hbase : B ≤ w.heap.size)
    (h : ∀ ao c w', Hid (w'.ownsRow B e m (.slice ao (n + k) c) (n + k) (xs ++ ys)) → Hid (w.grownBy w' v.ownBlock) → Hid ((Value.slice ao (n + k) c).ownBlock = v.ownBlock ∨ (Value.slice ao (n + k) c).ownBlock = some w.heap.size) → wpList Try.prog ops Q rest (a.put o.dst (.slice ao (n + k) c)) w') : wpList Try.prog ops Q (o :: rest) a w := by
  refine wpList_plain hgd fun K hK => ?_
  obtain ⟨v', w', hr, h2, h3, h4⟩ := append_rf w o.type B t e z m bytes ht hinfo hzs hm v n xs hown sv k ys hsn hl hl2 hbase
  obtain ⟨ao, c, rfl⟩ := own_shape h2
  unfold Oper.wp execOp
  simp only [ho, resolve, invoke, builtin, Sem.run_bind, Sem.run_pure, Result.andThen_ok, List.map_toArray, List.map_cons, List.map_nil, hs, hx, hr]
  exact hK _ _ (h ao c w' (hid h2) (hid h3) (hid h4))

theorem step_append_rf (w : World) {ops : Array Oper} {o : Oper} {a : Act} {K : Act → World → Prop} {Q : Exit → Act → World → Prop} {E : Prop} (hgd : o.guard = none) (s x : Operand) (t e : TypeId) (z : Value) (m bytes : Nat)
    (ho : o.op = .call { callee := .builtin .append, args := #[s, x], argTypes := #[t, t] }) (ht : Try.prog.underlying t = some (.slice e)) (hinfo : (Try.prog.info? e).map (fun i => (i.zero, i.size, i.bytes)) = some (some z, m, bytes)) (hzs : z.cells.size = m) (hm : 0 < m)
    (B : Nat) (v : Value) (n : Nat) (xs : List Value) (hs : a.eval s = v) (hown : w.ownsRow B e m v n xs)
    (sv : Value) (k : Nat) (ys : List Value) (hx : a.eval x = sv) (hsn : Rf w m sv k ys) (hl : (n + k) * bytes ≤ 140737488355328) (hl2 : n + k ≤ maxLen) (hbase : B ≤ w.heap.size)
    (h : ∀ ao c w', Hid (w'.ownsRow B e m (.slice ao (n + k) c) (n + k) (xs ++ ys)) → Hid (w.grownBy w' v.ownBlock) → Hid ((Value.slice ao (n + k) c).ownBlock = v.ownBlock ∨ (Value.slice ao (n + k) c).ownBlock = some w.heap.size) → K (a.put o.dst (.slice ao (n + k) c)) w') :
    if Region.wanted o (yielded ops a.tmps) = true then Oper.wp Try.prog o a w K Q else E := by
  have hw : Region.wanted o (yielded ops a.tmps) = true := by simp [Region.wanted, hgd]
  rw [if_pos hw]
  obtain ⟨v', w', hr, h2, h3, h4⟩ := append_rf w o.type B t e z m bytes ht hinfo hzs hm v n xs hown sv k ys hsn hl hl2 hbase
  obtain ⟨ao, c, rfl⟩ := own_shape h2
  unfold Oper.wp execOp
  simp only [ho, resolve, invoke, builtin, Sem.run_bind, Sem.run_pure, Result.andThen_ok, List.map_toArray, List.map_cons, List.map_nil, hs, hx, hr]
  exact h ao c w' (hid h2) (hid h3) (hid h4)

/-- The cells of one element of a flat row. -/
theorem flat_get {α : Type} (f : α → List Value) (m : Nat) (hf : ∀ x, (f x).length = m) : ∀ (xs : List α) (k c : Nat), c < m → (xs.flatMap f)[k * m + c]? = (xs[k]?).bind (fun x => (f x)[c]?)
  | [], k, c, _ => by simp
  | x :: xs, 0, c, h => by simp [List.getElem?_append_left, hf, h]
  | x :: xs, k + 1, c, h => by
    have ih := flat_get f m hf xs k c h
    rw [List.flatMap_cons, List.getElem?_append_right (by rw [hf, Nat.succ_mul]; omega), hf]
    have e : (k + 1) * m + c - m = k * m + c := by rw [Nat.succ_mul]; omega
    rw [e, ih]
    simp

theorem flat_len {α : Type} (f : α → List Value) (m : Nat) (hf : ∀ x, (f x).length = m) : ∀ xs : List α, (xs.flatMap f).length = xs.length * m
  | [] => by simp
  | x :: xs => by rw [List.flatMap_cons, List.length_append, hf, flat_len f m hf xs, List.length_cons, Nat.succ_mul]; omega

theorem add_add (a : Addr) (x y : Nat) : (a.add x).add y = a.add (x + y) := by
  unfold Addr.add
  by_cases hx : x = 0
  · subst hx; simp
  · by_cases hy : y = 0
    · subst hy; simp
    · simp [hx, hy, Nat.add_assoc]

/-- A slice whose elements are read, element by element. -/
theorem rf_of_trod {H : Type} {enc : TypeId × Value → H} {W : World} {base : Nat} {held : Bool} {fuel : Nat} {t e : TypeId} {cs : List Value} {x : DataW H × List MemPlace} {α : Type} [Inhabited α] (f : α → List Value) (p : α → Prop) (m : Nat) (hf : ∀ y, (f y).length = m) (h1 : ∀ y, ∀ u ∈ f y, u.oneCell' = true)
    (ht : Try.prog.underlying t = some (.slice e)) (hm : Try.prog.cellsOf e = m) (hel : ∀ n cs' x', DataW.trod enc Try.prog W base (fun _ => true) held n e cs' = some x' → ∃ y : α, p y ∧ cs' = f y)
    (h : DataW.trod enc Try.prog W base (fun _ => true) held fuel t cs = some x) : ∃ (v : Value) (ys : List α), cs = [v] ∧ Rf W m v ys.length (ys.flatMap f) ∧ ∀ y ∈ ys, p y := by
  rcases Go.Deep.open_slice ht h with ⟨rfl, _⟩ | ⟨a, len, cap, mm, n, D, Pl, rfl, _, hl, hcm, hmm, _, hx⟩
  · exact ⟨_, [], rfl, rf_nil W m, (fun _ h => nomatch h)⟩
  · simp only [if_true] at hmm
    subst hmm
    rw [hm] at hx
    have key : ∀ i, i < len → ∃ y : α, p y ∧ ∀ c, c < m → W.cell? ((a.add (i * m)).add c) = (f y)[c]? := by
      intro i hi
      obtain ⟨cs', q1, q2⟩ := hx i (by omega)
      obtain ⟨y, hy, rfl⟩ := hel _ _ _ q2
      exact ⟨y, hy, fun c hc => (World.cells?_some q1).2.2 c hc⟩
    obtain ⟨F, hF⟩ := Go.Deep.choose_lt key
    refine ⟨_, (List.range len).map F, rfl, ⟨flat_len f m hf _, ?_, .inr ⟨a, mm, by simp, by simpa using hl, hcm, ?_⟩⟩, ?_⟩
    · intro u hu
      obtain ⟨y, _, hy⟩ := List.mem_flatMap.1 hu
      exact h1 y u hy
    · intro j u hu
      have hmp : 0 < m := by
        rcases Nat.eq_zero_or_pos m with h0 | h0
        · have hz := flat_len f m hf ((List.range len).map F)
          rw [h0, Nat.mul_zero] at hz
          rw [List.eq_nil_of_length_eq_zero hz] at hu
          simp at hu
        · exact h0
      have hj : j = j / m * m + j % m := by rw [Nat.mul_comm]; exact (Nat.div_add_mod j m).symm
      have hc : j % m < m := Nat.mod_lt _ hmp
      rw [hj, flat_get f m hf _ _ _ hc] at hu
      rw [List.getElem?_map] at hu
      have hlt : j / m < len := by
        rcases Nat.lt_or_ge (j / m) len with h | h
        · exact h
        · rw [List.getElem?_eq_none (by simpa using h)] at hu
          simp at hu
      simp [hlt] at hu
      have := (hF (j / m) hlt).2 (j % m) hc
      rw [hu, add_add, ← hj] at this
      exact this
    · intro y hy
      simp at hy
      obtain ⟨i, hi, rfl⟩ := hy
      exact (hF i hi).1

end Go.Proofs.Ytdnlfacfleemeaa

namespace Go.Proofs.Ytdnlfacfleemeaa
open Go.RowKit Go.Lib

def stopI : Ins := ⟨16, 0, 0, 0, 0, 0, 0, emp⟩
def tellI : Ins := ⟨15, 15, 0, 0, 0, 0, 0, emp⟩
def p1 : ByteArray := ⟨#[112]⟩
def p2 : ByteArray := ⟨#[113, 46, 45, 95, 57]⟩

theorem stop_err (ar bh : Int) : insErr stopI ar bh = 0 := by
  simp [insErr, stopI, opErr, opN, opF, chkF, chk]

theorem tell_err (ar bh : Int) : insErr tellI ar bh = 0 := by
  simp [insErr, tellI, opErr, opN, opF, chkF, chk, Fk.fits, Fk.get, Fk.set, withinB]

theorem stops_chk (ar : Int) (len : Nat) : ∀ (m i : Nat), codeChk ar len i (List.replicate m stopI) = (0, 0) := by
  intro m
  induction m with
  | zero => intro i; rfl
  | succ m ih => intro i; rw [List.replicate_succ, codeChk, if_pos (stop_err _ _)]; exact ih _

theorem plain_err (x : Ins) (hk : x.k = 0) (hi : x.i = 0) (ht : x.t = emp) (ar bh : Int) : insErr x ar bh = 0 ∨ insErr x ar bh = 16 := by
  unfold insErr
  split
  · unfold opErr
    split
    · exact .inr rfl
    · split
      · left; rw [hk, hi, ht]; simp [chk]
      · exact .inr rfl
  · exact .inr rfl

theorem edge_one (x : Ins) (ar : Int) (h0 : 0 ≤ ar) (h1 : ar ≤ 16) (m : Nat) (hm : m ≤ 60) : procChk p1 ar (x :: List.replicate m stopI) = (0, insErr x ar m) := by
  have e1 : nameB p1 = true := by decide
  have e2 : withinB ar 0 16 = true := by simp [withinB, h0, h1]
  rw [procChk, if_pos e1, if_pos e2, if_pos (by simp; omega), codeChk]
  have e3 : (((x :: List.replicate m stopI).length : Nat) : Int) - 1 - (0 : Nat) = (m : Int) := by simp
  rw [e3]
  split
  · rename_i h; rw [h]; exact stops_chk _ _ _ _
  · rfl

theorem edge_two (x : Ins) (ar : Int) (h0 : 0 ≤ ar) (h1 : ar ≤ 16) (m : Nat) (hm : m ≤ 60) : procChk p2 ar (tellI :: x :: List.replicate m stopI) = (if insErr x ar m = 0 then 0 else 1, insErr x ar m) := by
  have e1 : nameB p2 = true := by decide
  have e2 : withinB ar 0 16 = true := by simp [withinB, h0, h1]
  rw [procChk, if_pos e1, if_pos e2, if_pos (by simp; omega), codeChk, if_pos (tell_err _ _), codeChk]
  have e3 : (((tellI :: x :: List.replicate m stopI).length : Nat) : Int) - 1 - ((0 + 1 : Nat) : Int) = (m : Int) := by simp <;> omega
  rw [e3]
  split
  · rename_i h; rw [h]; exact stops_chk _ _ _ _
  · rfl

theorem ins_cells (x : Ins) : x.cells.length = 8 := rfl
theorem ins_one (x : Ins) : ∀ u ∈ x.cells, u.oneCell' = true := by
  intro u hu
  simp only [Ins.cells, List.mem_cons, List.mem_nil_iff, or_false] at hu
  rcases hu with rfl | rfl | rfl | rfl | rfl | rfl | rfl | rfl <;> rfl

theorem Try.info28z : (Try.prog.info? 52).map (fun i => (i.zero, i.size, i.bytes)) = some (some (.agg zCells), 8, 72) := by kernel_rfl

theorem code_of_rf {w : World} {v : Value} {xs : List Ins} (h : Rf w 8 v xs.length (xs.flatMap Ins.cells)) : CodeAt w v xs := by
  obtain ⟨ao, cap, hv, hc, _⟩ := h.shape
  refine ⟨ao, cap, hv, hc, fun hne => ?_⟩
  obtain ⟨b, off, cap', hv', _, _, hcell⟩ := h.lits (List.length_pos_iff.2 hne) (by decide)
  rw [hv] at hv'
  injection hv' with hv1 _ _
  refine ⟨b, off, hv1, fun j x hx => ?_⟩
  have hg : ∀ m, m < 8 → w.cell? ⟨b, off + j * 8 + m, none⟩ = x.cells[m]? := by
    intro m hm
    have e := flat_get Ins.cells 8 ins_cells xs j m hm
    rw [hx] at e
    have hm2 : m < x.cells.length := hm
    have e2 : x.cells[m]? = some x.cells[m] := List.getElem?_eq_getElem hm2
    rw [Option.bind_some, e2] at e
    rw [e2, Nat.add_assoc]
    exact hcell _ _ e
  exact ⟨hg 0 (by decide), hg 1 (by decide), hg 2 (by decide), hg 3 (by decide), hg 4 (by decide), hg 5 (by decide), hg 6 (by decide), hg 7 (by decide)⟩

theorem all_one (xs : List Ins) : ∀ u ∈ xs.flatMap Ins.cells, u.oneCell' = true := by
  intro u hu
  obtain ⟨y, _, hy⟩ := List.mem_flatMap.1 hu
  exact ins_one y u hy

/-- While the first list is made. -/
structure Egs (w W : World) (ar : Int) (S : Value) (xs : List Ins) (r : Nat) : Prop where
  r0 : W.heap[r]? = some (po p1 ar S)
  ow : W.ownsRow (w.heap.size + 1) 52 8 S xs.length (xs.flatMap Ins.cells)
  hb : Below w.heap.size w W
  lt : w.heap.size < r

theorem owns_new (w : World) (B : Nat) (x : Ins) (hB : B ≤ w.heap.size) : (w.alloc (io x.op x.a x.b x.c x.n x.k x.i x.t)).ownsRow B 52 8 (.slice (some ⟨w.heap.size, 0, none⟩) 1 1) [x].length ([x].flatMap Ins.cells) := by
  refine ⟨by simp [Ins.cells], .inr ⟨w.heap.size, 1, _, rfl, hB, heap_alloc_new w _, Nat.le_refl _, by decide, by simp, ?_⟩⟩
  simp [Ins.cells]

theorem egs_start (w : World) (ar : Int) (x : Ins) : Egs w (((w.alloc (io x.op x.a x.b x.c x.n x.k x.i x.t)).alloc (io x.op x.a x.b x.c x.n x.k x.i x.t)).alloc (po p1 ar (.slice (some ⟨w.heap.size + 1, 0, none⟩) 1 1))) ar (.slice (some ⟨w.heap.size + 1, 0, none⟩) 1 1) [x] (w.heap.size + 1 + 1) := by
  have hz : (w.alloc (io x.op x.a x.b x.c x.n x.k x.i x.t)).heap.size = w.heap.size + 1 := by simp
  have h1 := owns_new (w.alloc (io x.op x.a x.b x.c x.n x.k x.i x.t)) (w.heap.size + 1) x (by simp)
  rw [hz] at h1
  have h3 := (three w (io x.op x.a x.b x.c x.n x.k x.i x.t) (io x.op x.a x.b x.c x.n x.k x.i x.t) (po p1 ar (.slice (some ⟨w.heap.size + 1, 0, none⟩) 1 1)))
  exact ⟨h3.2.2.1, h1.alloc _, h3.2.2.2, by omega⟩

theorem Egs.own {w W : World} {ar : Int} {ao : Option Addr} {cc k : Nat} {x : Ins} {r : Nat} (h : Egs w W ar (.slice ao (k + 1) cc) (x :: List.replicate k stopI) r) : W.ownsRow (w.heap.size + 1) 52 8 (.slice ao (k + 1) cc) (k + 1) ((x :: List.replicate k stopI).flatMap Ins.cells) := by
  have := h.ow
  simpa using this

theorem Egs.base {w W : World} {ar : Int} {S : Value} {xs : List Ins} {r : Nat} (h : Egs w W ar S xs r) (o : Obj) : w.heap.size + 1 ≤ (W.alloc o).heap.size := by
  have := h.hb.size
  simp
  omega

theorem rf_stop (w : World) : Rf (w.alloc (.cells #[.int .i64 16, .int .i64 0, .int .i64 0, .int .i64 0, .int .i64 0, .int .i64 0, .int .i64 0, .string emp] 52)) 8 (.slice (some ⟨w.heap.size, 0, none⟩) 1 1) 1 ([stopI].flatMap Ins.cells) :=
  rf_of_owns (owns_new w 0 stopI (Nat.zero_le _)) (all_one _)

theorem Egs.grow {w W W1 : World} {ar : Int} {ao ao1 : Option Addr} {cc c1 k : Nat} {x : Ins} {r : Nat} {o : Obj} (h : Egs w W ar (.slice ao (k + 1) cc) (x :: List.replicate k stopI) r)
    (hown : W1.ownsRow (w.heap.size + 1) 52 8 (.slice ao1 (k + 1 + 1) c1) (k + 1 + 1) ((x :: List.replicate k stopI).flatMap Ins.cells ++ [stopI].flatMap Ins.cells)) (hg : (W.alloc o).grownBy W1 (Value.slice ao (k + 1) cc).ownBlock) :
    W1.heap[r]? = some (po p1 ar (.slice ao (k + 1) cc)) ∧ Egs w (W1.setCell ⟨r, 2, none⟩ (.slice ao1 (k + 1 + 1) c1)) ar (.slice ao1 (k + 1 + 1) c1) (x :: List.replicate (k + 1) stopI) r := by
  have h1 : (W.alloc o).heap[r]? = some (po p1 ar (.slice ao (k + 1) cc)) := (Below.heap_alloc _ _ _ (lt_of h.r0)).trans h.r0
  have hne : (Value.slice ao (k + 1) cc).ownBlock ≠ some r := by
    intro e
    rcases h.ow.2 with ⟨e1, _⟩ | ⟨g, cap, cur, e1, _, hgg, _⟩
    · injection e1 with e1 _ _; rw [e1] at e; simp [Value.ownBlock] at e
    · injection e1 with e1 _ _
      rw [e1] at e
      simp [Value.ownBlock] at e
      rw [e, h.r0] at hgg
      simp at hgg
  have h2 : W1.heap[r]? = some (po p1 ar (.slice ao (k + 1) cc)) := (hg.block r (lt_of h1) (fun e => hne e.symm)).trans h1
  have hb1 : Below w.heap.size w W1 := (h.hb.alloc h.hb.size o).grown hg (h.hb.alloc h.hb.size o).size (fun q hq => by have := (h.own.lt q hq).1; omega)
  have hne2 : (Value.slice ao1 (k + 1 + 1) c1).ownBlock ≠ some r := by
    intro e
    rcases hown.2 with ⟨_, e2⟩ | ⟨g, cap, cur, e1, _, hgg, _⟩
    · omega
    · injection e1 with e1 _ _
      rw [e1] at e
      simp [Value.ownBlock] at e
      rw [e, h2] at hgg
      simp at hgg
  refine ⟨h2, ⟨po_set2 h2, ?_, hb1.setCell (p := ⟨r, 2, none⟩) (Nat.le_of_lt h.lt) _, h.lt⟩⟩
  have e : (x :: List.replicate k stopI).flatMap Ins.cells ++ [stopI].flatMap Ins.cells = (x :: List.replicate (k + 1) stopI).flatMap Ins.cells := by
    rw [← List.flatMap_append, List.cons_append, ← List.replicate_succ']
  rw [e] at hown
  have hk : Kept (fun q => q = r) W1 (W1.setCell ⟨r, 2, none⟩ (.slice ao1 (k + 1 + 1) c1)) := Kept.setCell (p := ⟨r, 2, none⟩) (Kept.refl (fun q => q = r) W1) (fun _ => rfl) _
  have := ownsRow_kept hown hk (fun q hq e => hne2 (by rw [hq, e]))
  simpa using this

theorem Egs.below {w W W' : World} {ar : Int} {S : Value} {xs : List Ins} {r : Nat} (h : Egs w W ar S xs r) (hb : Below W.heap.size W W') : Egs w W' ar S xs r :=
  ⟨blk_of hb h.r0 (lt_of h.r0), ownsRow_kept h.ow (Kept.ofBelow hb) (fun _ _ h => h), below_on h.hb hb, h.lt⟩

theorem Egs.code {w W : World} {ar : Int} {S : Value} {xs : List Ins} {r : Nat} (h : Egs w W ar S xs r) : CodeAt W S xs := code_of_rf (rf_of_owns h.ow (all_one _))

theorem own_tell (w : World) : (w.alloc (.cells #[.int .i64 15, .int .i64 15, .int .i64 0, .int .i64 0, .int .i64 0, .int .i64 0, .int .i64 0, .string emp] 52)).ownsRow w.heap.size 52 8 (.slice (some ⟨w.heap.size, 0, none⟩) 1 1) 1 ([tellI].flatMap Ins.cells) :=
  owns_new w w.heap.size tellI (Nat.le_refl _)

theorem Egs.two {w W W2 : World} {ar : Int} {ao ao2 : Option Addr} {cc c2 k : Nat} {x : Ins} {r : Nat} {o : Obj} {v : Value} (h : Egs w W ar (.slice ao (k + 1) cc) (x :: List.replicate k stopI) r)
    (hown : W2.ownsRow W.heap.size 52 8 (.slice ao2 (1 + (k + 1)) c2) (1 + (k + 1)) ([tellI].flatMap Ins.cells ++ (x :: List.replicate k stopI).flatMap Ins.cells)) (hg : (W.alloc o).grownBy W2 v.ownBlock)
    (hv : v.ownBlock = some W.heap.size := by rfl) :
    Egs w W2 ar (.slice ao (k + 1) cc) (x :: List.replicate k stopI) r ∧ CodeAt W2 (.slice ao2 (1 + (k + 1)) c2) (tellI :: x :: List.replicate k stopI) := by
  have hb : Below W.heap.size W W2 := (below1 W o).trans ((Below.refl _ _).grown hg (by simp) (fun q hq => by rw [hv] at hq; have := Option.some.inj hq; omega))
  refine ⟨h.below hb, code_of_rf ?_⟩
  have := rf_of_owns hown (by
    intro u hu
    rw [← List.flatMap_append] at hu
    exact all_one _ u hu)
  rw [← List.flatMap_append] at this
  simpa [Nat.add_comm] using this

theorem twos {w w2 w3 : World} {ar : Int} {ao ao2 : Option Addr} {cc c2 k : Nat} {x : Ins} {r : Nat} {o : Obj} (h : Egs w w2 ar (.slice ao (k + 1) cc) (x :: List.replicate k stopI) r ∧ CodeAt w2 (.slice ao2 (1 + (k + 1)) c2) (tellI :: x :: List.replicate k stopI))
    (hb : Below (w2.alloc o).heap.size (w2.alloc o) w3) : w3.heap[w2.heap.size]? = some o ∧ CodeAt w3 (.slice ao2 (1 + (k + 1)) c2) (tellI :: x :: List.replicate k stopI) ∧ Below w.heap.size w w3 :=
  ⟨blk_of hb (heap_alloc_new w2 o) (by simp), (h.2.below (below1 w2 o)).below hb, below_on h.1.hb (below_on (below1 w2 o) hb)⟩

end Go.Proofs.Ytdnlfacfleemeaa

namespace Go.Proofs.Ytdnlfacfleemeaa
open Go.RowKit Go.WideShapes Go.ChangeAt Go.ChangeShapes

theorem Try.cells50 : Try.prog.cellsOf 50 = 3 := by kernel_rfl
theorem Try.cells52 : Try.prog.cellsOf 52 = 8 := by kernel_rfl
theorem Try.cells27 : Try.prog.cellsOf 27 = 3 := by kernel_rfl
theorem Try.cells25 : Try.prog.cellsOf 25 = 1 := by kernel_rfl
theorem Try.cells3 : Try.prog.cellsOf 3 = 1 := by kernel_rfl
theorem Try.cells2 : Try.prog.cellsOf 2 = 1 := by kernel_rfl
theorem Try.cells9 : Try.prog.cellsOf 9 = 1 := by kernel_rfl

set_option maxRecDepth 100000 in
theorem vl_of_trod {H : Type} {enc : TypeId × Value → H} {W : World} {base : Nat} {spare : Nat → Bool} {held : Bool} {fuel : Nat} {cs : List Value} {x : DataW H × List MemPlace}
    (h : DataW.trod enc Try.prog W base spare held fuel 50 cs = some x) : ∃ k i s, cs = [.int .i64 k, .int .i64 i, .string s] ∧ (-9223372036854775808 ≤ i ∧ i ≤ 9223372036854775807) ∧ s.size ≤ maxLen := by
  obtain ⟨xs, n, _, rfl, hl, hlen, hf⟩ := DataW.trod_struct Try.underlying50 h
  rw [Try.cells50] at hl
  match cs, hl, xs, hlen with
  | [c0, c1, c2], _, [y0, y1, y2], _ =>
    have f0 : DataW.trod enc Try.prog W base spare held n 3 (([c0, c1, c2].drop 0).take (Try.prog.cellsOf 3)) = some y0 := hf 0 _ rfl
    have f1 : DataW.trod enc Try.prog W base spare held n 2 (([c0, c1, c2].drop 1).take (Try.prog.cellsOf 2)) = some y1 := hf 1 _ rfl
    have f2 : DataW.trod enc Try.prog W base spare held n 9 (([c0, c1, c2].drop 2).take (Try.prog.cellsOf 9)) = some y2 := hf 2 _ rfl
    rw [Try.cells3] at f0
    rw [Try.cells2] at f1
    rw [Try.cells9] at f2
    obtain ⟨a0, e0, _, w0⟩ := DataW.trod_int Try.underlying3 (x := y0) (by simpa using f0)
    obtain ⟨a1, e1, _, w1⟩ := DataW.trod_int Try.underlying2 (x := y1) (by simpa using f1)
    obtain ⟨s, e2, _, w2⟩ := DataW.trod_string Try.underlying9 (x := y2) (by simpa using f2)
    simp at e0 e1 e2
    subst e0 e1 e2
    have b1 := bounds_i64 w1
    exact ⟨a0, a1, s, rfl, ⟨b1.1, by omega⟩, w2⟩

set_option maxRecDepth 100000 in
theorem ins_of_trod {H : Type} {enc : TypeId × Value → H} {W : World} {base : Nat} {spare : Nat → Bool} {held : Bool} {fuel : Nat} {cs : List Value} {x : DataW H × List MemPlace}
    (h : DataW.trod enc Try.prog W base spare held fuel 52 cs = some x) : ∃ y : Ins, InsOk y ∧ cs = y.cells := by
  obtain ⟨xs, n, _, rfl, hl, hlen, hf⟩ := DataW.trod_struct Try.underlying52 h
  rw [Try.cells52] at hl
  match cs, hl, xs, hlen with
  | [c0, c1, c2, c3, c4, c5, c6, c7], _, [y0, y1, y2, y3, y4, y5], _ =>
    have f0 : DataW.trod enc Try.prog W base spare held n 3 (([c0, c1, c2, c3, c4, c5, c6, c7].drop 0).take (Try.prog.cellsOf 3)) = some y0 := hf 0 _ rfl
    have f1 : DataW.trod enc Try.prog W base spare held n 3 (([c0, c1, c2, c3, c4, c5, c6, c7].drop 1).take (Try.prog.cellsOf 3)) = some y1 := hf 1 _ rfl
    have f2 : DataW.trod enc Try.prog W base spare held n 3 (([c0, c1, c2, c3, c4, c5, c6, c7].drop 2).take (Try.prog.cellsOf 3)) = some y2 := hf 2 _ rfl
    have f3 : DataW.trod enc Try.prog W base spare held n 3 (([c0, c1, c2, c3, c4, c5, c6, c7].drop 3).take (Try.prog.cellsOf 3)) = some y3 := hf 3 _ rfl
    have f4 : DataW.trod enc Try.prog W base spare held n 3 (([c0, c1, c2, c3, c4, c5, c6, c7].drop 4).take (Try.prog.cellsOf 3)) = some y4 := hf 4 _ rfl
    have f5 : DataW.trod enc Try.prog W base spare held n 50 (([c0, c1, c2, c3, c4, c5, c6, c7].drop 5).take (Try.prog.cellsOf 50)) = some y5 := hf 5 _ rfl
    rw [Try.cells3] at f0 f1 f2 f3 f4
    rw [Try.cells50] at f5
    obtain ⟨a0, e0, _, _⟩ := DataW.trod_int Try.underlying3 (x := y0) (by simpa using f0)
    obtain ⟨a1, e1, _, _⟩ := DataW.trod_int Try.underlying3 (x := y1) (by simpa using f1)
    obtain ⟨a2, e2, _, _⟩ := DataW.trod_int Try.underlying3 (x := y2) (by simpa using f2)
    obtain ⟨a3, e3, _, _⟩ := DataW.trod_int Try.underlying3 (x := y3) (by simpa using f3)
    obtain ⟨a4, e4, _, _⟩ := DataW.trod_int Try.underlying3 (x := y4) (by simpa using f4)
    obtain ⟨k, i, s, e5, hi, _⟩ := vl_of_trod f5
    simp at e0 e1 e2 e3 e4 e5
    obtain ⟨e5, e6, e7⟩ := e5
    subst e0 e1 e2 e3 e4 e5 e6 e7
    exact ⟨⟨a0, a1, a2, a3, a4, k, i, s⟩, ⟨hi.1, by have := hi.2; show i < 9223372036854775808; omega⟩, rfl⟩

instance : Inhabited Ins := ⟨stopI⟩

set_option maxRecDepth 100000 in
/-- A procedure as an argument. -/
theorem proc_of_trod {H : Type} {enc : TypeId × Value → H} {W : World} {base b2 : Nat} {held : Bool} {v : Value} {d : DataW H} {p : List MemPlace} (hv : Value.okWide Try.prog W .any b2 27 v)
    (h : DataW.Trod enc Try.prog W base (fun _ => true) held 27 v d p) : ∃ (nm : ByteArray) (ar : Int) (S : Value) (xs : List Ins), v = .agg #[.string nm, .int .i64 ar, S] ∧ Rf W 8 S xs.length (xs.flatMap Ins.cells) ∧ (∀ x ∈ xs, InsOk x) := by
  obtain ⟨⟨cs⟩, rfl, _⟩ := okWide_struct Try.underlying27 hv
  obtain ⟨fuel, hf0⟩ := h
  have hf0 : DataW.trod enc Try.prog W base (fun _ => true) held fuel 27 cs = some (d, p) := by simpa [Value.cells] using hf0
  obtain ⟨xs, n, _, hd, hl, hlen, hf⟩ := DataW.trod_struct Try.underlying27 hf0
  rw [Try.cells27] at hl
  match cs, hl, xs, hlen with
  | [c0, c1, c2], _, [y0, y1, y2], _ =>
    have f0 : DataW.trod enc Try.prog W base (fun _ => true) held n 9 (([c0, c1, c2].drop 0).take (Try.prog.cellsOf 9)) = some y0 := hf 0 _ rfl
    have f1 : DataW.trod enc Try.prog W base (fun _ => true) held n 3 (([c0, c1, c2].drop 1).take (Try.prog.cellsOf 3)) = some y1 := hf 1 _ rfl
    have f2 : DataW.trod enc Try.prog W base (fun _ => true) held n 25 (([c0, c1, c2].drop 2).take (Try.prog.cellsOf 25)) = some y2 := hf 2 _ rfl
    rw [Try.cells9] at f0
    rw [Try.cells3] at f1
    rw [Try.cells25] at f2
    obtain ⟨s, e0, _, _⟩ := DataW.trod_string Try.underlying9 (x := y0) (by simpa using f0)
    obtain ⟨a1, e1, _, _⟩ := DataW.trod_int Try.underlying3 (x := y1) (by simpa using f1)
    obtain ⟨S, ys, e2, hR, hO⟩ := rf_of_trod Ins.cells InsOk 8 ins_cells ins_one Try.underlying25 Try.cells52 (fun _ _ _ h => ins_of_trod h) f2
    simp at e0 e1 e2
    subst e0 e1 e2
    exact ⟨s, a1, _, ys, rfl, hR, hO⟩

set_option maxRecDepth 100000 in
/-- An instruction as an argument. -/
theorem instr_of_trod {H : Type} {enc : TypeId × Value → H} {W : World} {base b2 : Nat} {held : Bool} {v : Value} {d : DataW H} {p : List MemPlace} (hv : Value.okWide Try.prog W .any b2 52 v)
    (h : DataW.Trod enc Try.prog W base (fun _ => true) held 52 v d p) : ∃ x : Ins, v = x.val ∧ InsOk x := by
  obtain ⟨⟨cs⟩, rfl, _⟩ := okWide_struct Try.underlying52 hv
  obtain ⟨fuel, hf⟩ := h
  obtain ⟨x, h1, h2⟩ := ins_of_trod hf
  refine ⟨x, ?_, h1⟩
  have h4 : cs = x.cells := by simpa [Value.cells] using h2
  rw [h4]
  rfl

end Go.Proofs.Ytdnlfacfleemeaa
