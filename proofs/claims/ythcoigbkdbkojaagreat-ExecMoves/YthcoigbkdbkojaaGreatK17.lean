import Derived.Test.YthcoigbkdbkojaaGreatK16
namespace Go.Proofs.YthcoigbkdbkojaaGreat
open Go.RowKit Go.MapKept
open V (hp_new hp_lt hp_below hp_alloc)

theorem perm2 {α : Type} {l : List α} {a b : α} (h : l.Perm [a, b]) : l = [a, b] ∨ l = [b, a] := by
  match l, h.length_eq with
  | [x, y], _ =>
    have hx : x ∈ [a, b] := h.mem_iff.1 (List.mem_cons_self ..)
    rcases List.mem_cons.1 hx with e | e
    · subst e
      have h2 := (List.perm_cons x).1 h
      have h3 : [y] = [b] := List.perm_singleton.1 h2
      exact .inl (by rw [h3])
    · have e : x = b := by simpa using e
      subst e
      have h1 : [x, y].Perm [x, a] := h.trans (List.Perm.swap _ _ _)
      have h3 : [y] = [a] := List.perm_singleton.1 ((List.perm_cons x).1 h1)
      exact .inr (by rw [h3])

theorem lkp_two {κ : Type} [DecidableEq κ] (f t : κ) (u v : Value) (hne : f ≠ t) : lkp t [(f, u), (t, v)] = some v := by
  have hb : (t == f) = false := beq_false_of_ne (fun e => hne (Eq.symm e))
  unfold lkp
  simp only [List.lookup, hb, beq_self_eq_true]

/-- The writes of two keys, in either order. -/
theorem dnL_two (f t : ByteArray) (d e : Vd) (hne : f ≠ t) : dnL [(f, d.val), (t, e.val)] = [(f, d), (t, e)] ∨ dnL [(f, d.val), (t, e.val)] = [(t, e), (f, d)] := by
  have h1 : (sk [(f, d.val), (t, e.val)]).Perm [f.data.toList, t.data.toList] := List.mergeSort_perm _ _
  have h2 : ∀ key : ByteArray, (⟨key.data.toList.toArray⟩ : ByteArray) = key := fun key => by simp
  have h3 : lkp f [(f, d.val), (t, e.val)] = some d.val := by unfold lkp; simp [List.lookup]
  have h4 : lkp t [(f, d.val), (t, e.val)] = some e.val := lkp_two f t d.val e.val hne
  unfold dnL
  rcases perm2 h1 with h | h
  · left
    rw [h, List.map_cons, List.map_cons, List.map_nil, h2, h2, h3, h4]
    rfl
  · right
    rw [h, List.map_cons, List.map_cons, List.map_nil, h2, h2, h3, h4]
    rfl

theorem toList_ne {f t : ByteArray} (h : f ≠ t) : (f.toList == t.toList) = false := by
  have : f.toList ≠ t.toList := fun e => h (toList_inj e)
  simpa using this

theorem getE_two (f t : ByteArray) (d e : Vd) (hne : f ≠ t) : getE f (dnL [(f, d.val), (t, e.val)]) = some d ∧ getE t (dnL [(f, d.val), (t, e.val)]) = some e := by
  have h1 := toList_ne hne
  have h2 := toList_ne (fun e => hne e.symm : t ≠ f)
  rcases dnL_two f t d e hne with h | h <;> (rw [h]; constructor <;> simp [getE_cons, h1, h2])

theorem mdL_two (f t : ByteArray) (d e : Vd) (hne : f ≠ t) : mdL [(f, d), (t, e)] = [(f, d), (t, e)] ∨ mdL [(f, d), (t, e)] = [(t, e), (f, d)] := by
  have h1 := toList_ne hne
  show putE (t, e) [(f, d)] = _ ∨ putE (t, e) [(f, d)] = _
  unfold putE
  split
  · right
    simp [h1]
  · left
    rfl

theorem stG_two (f t : ByteArray) (d e : Vd) (hne : f ≠ t) : stG (mdL [(f, d), (t, e)]) f = some (pdOf d) ∧ stG (mdL [(f, d), (t, e)]) t = some (pdOf e) := by
  have hne' : t ≠ f := fun e => hne e.symm
  rcases mdL_two f t d e hne with h | h <;> (rw [h]; constructor <;> simp [stG, V.updG, hne, hne'])

theorem mdL_two_len (f t : ByteArray) (d e : Vd) (hne : f ≠ t) : (mdL [(f, d), (t, e)]).length = 2 := by
  rcases mdL_two f t d e hne with h | h <;> rw [h] <;> rfl

/-- The procedure of the law. -/
abbrev xsM : List Ins := [⟨2, 0, 0, 0, 0, 0, 0, emp⟩, ⟨2, 1, 0, 0, 1, 0, 0, emp⟩, ⟨2, 2, 0, 0, 2, 0, 0, emp⟩, ⟨3, 3, 0, 0, 0, 0, 0, emp⟩, ⟨3, 4, 1, 0, 0, 0, 0, emp⟩, ⟨10, 0, 3, 2, 6, 0, 0, emp⟩, ⟨7, 3, 3, 2, 0, 0, 0, emp⟩, ⟨6, 4, 4, 2, 0, 0, 0, emp⟩, ⟨4, 0, 3, 0, 0, 0, 0, emp⟩, ⟨4, 1, 4, 0, 0, 0, 0, emp⟩]

theorem chkM : procChk ⟨#[109, 111, 118, 101]⟩ 3 xsM = (0, 0) := by decide +kernel

section
variable (vw av : Value) (f t : ByteArray) (a b n : Int)
def sM3 : Mc := (((mc0 vw av).reg 0 ⟨2, 0, f⟩).reg 1 ⟨2, 0, t⟩).reg 2 ⟨1, n, emp⟩
def sM5 : Mc := { ((sM3 vw av f t n).reg 3 ⟨1, a, emp⟩).reg 4 ⟨1, b, emp⟩ with lk := [(f, f), (t, t)] }
def sM8 : Mc := ((sM5 vw av f t a b n).reg 3 ⟨1, a - n, emp⟩).reg 4 ⟨1, b + n, emp⟩
/-- Its states. -/
def stM : Nat → Mc
  | 0 => mc0 vw av
  | 1 => (mc0 vw av).reg 0 ⟨2, 0, f⟩
  | 2 => ((mc0 vw av).reg 0 ⟨2, 0, f⟩).reg 1 ⟨2, 0, t⟩
  | 3 => sM3 vw av f t n
  | 4 => { (sM3 vw av f t n).reg 3 ⟨1, a, emp⟩ with lk := [(f, f)] }
  | 5 => sM5 vw av f t a b n
  | 6 => sM5 vw av f t a b n
  | 7 => (sM5 vw av f t a b n).reg 3 ⟨1, a - n, emp⟩
  | 8 => sM8 vw av f t a b n
  | 9 => { sM8 vw av f t a b n with kv := [(f, (⟨1, a - n, emp⟩ : Vd).val)] }
  | _ => { sM8 vw av f t a b n with kv := [(f, (⟨1, a - n, emp⟩ : Vd).val), (t, (⟨1, b + n, emp⟩ : Vd).val)] }
end

section
variable {w : World} {p B0 m : Nat} {av : Value} {f t : ByteArray} {a b n : Int}

theorem goesM (hpv : V.PV w p (stG (mdL [(f, ⟨1, a, emp⟩), (t, ⟨1, b, emp⟩)])) false m B0) (ha : Va w av [⟨2, 0, f⟩, ⟨2, 0, t⟩, ⟨1, n, emp⟩]) (hf : isKeyB f = true) (ht : isKeyB t = true) (hne : f ≠ t)
    (ra : inR a = true) (rb : inR b = true) (rn : inR n = true) (k0 : Nat) (h5 : 5 < k0 → n ≤ a) (h6 : 6 < k0 → inR (a - n) = true) (h7 : 7 < k0 → inR (b + n) = true)
    (ws : World) (mb M : Nat) (hb : Below w.heap.size w ws) (k : Nat) (x : Ins) (hk : k < k0) (hx : xsM[k]? = some x) :
    Goes1 ws ws.heap.size mb M k x (stM (.iface 35 (.pointer (some ⟨p, 0, none⟩))) av f t a b n k) (stM (.iface 35 (.pointer (some ⟨p, 0, none⟩))) av f t a b n (k + 1)) := by
  obtain ⟨g1, g2⟩ := stG_two f t ⟨1, a, emp⟩ ⟨1, b, emp⟩ hne
  match k, hx, hk with
  | 0, hx, _ =>
    injection hx with hx
    subst hx
    exact g_arg rfl _ _ (fun W hW => (ha.below hb).below hW) (by decide) (by decide) (by decide) rfl
  | 1, hx, _ =>
    injection hx with hx
    subst hx
    exact g_arg rfl _ _ (fun W hW => (ha.below hb).below hW) (by decide) (by decide) (by decide) rfl
  | 2, hx, _ =>
    injection hx with hx
    subst hx
    exact g_arg rfl _ _ (fun W hW => (ha.below hb).below hW) (by decide) (by decide) (by decide) rfl
  | 3, hx, _ =>
    injection hx with hx
    subst hx
    exact g_get rfl f p _ m B0 ⟨1, a, emp⟩ (by decide) (by decide) (by decide) (by decide) rfl hf (by show 0 ≤ 1000; decide) rfl (fun W hW => (hpv.below hb).below hW) (fun h => nomatch h) g1
  | 4, hx, _ =>
    injection hx with hx
    subst hx
    exact g_get rfl t p _ m B0 ⟨1, b, emp⟩ (by decide) (by decide) (by decide) (by decide) rfl ht (by show 1 ≤ 1000; decide) rfl (fun W hW => (hpv.below hb).below hW) (fun h => nomatch h) g2
  | 5, hx, hk =>
    injection hx with hx
    subst hx
    refine g_need rfl (by decide) (by decide) (by decide) (by decide) ?_
    have := h5 hk
    show holdsB 6 (cmpV 1 a emp 1 n emp) = true
    simp [holdsB, cmpV, cmpI]
    omega
  | 6, hx, hk =>
    injection hx with hx
    subst hx
    exact g_sub rfl a n (by decide) (by decide) (by decide) (by decide) (by decide) (by decide) rfl rfl ra rn (h6 hk)
  | 7, hx, hk =>
    injection hx with hx
    subst hx
    exact g_add rfl b n (by decide) (by decide) (by decide) (by decide) (by decide) (by decide) rfl rfl rb rn (h7 hk)
  | 8, hx, _ =>
    injection hx with hx
    subst hx
    exact g_put rfl f (by decide) (by decide) (by decide) (by decide) rfl hf (fun h => nomatch h)
  | 9, hx, _ =>
    injection hx with hx
    subst hx
    exact g_put rfl t (by decide) (by decide) (by decide) (by decide) rfl ht (by show t ∉ [f]; exact fun h => hne (List.mem_singleton.1 h).symm)
  | k + 10, hx, _ => simp at hx

end

end Go.Proofs.YthcoigbkdbkojaaGreat

namespace Go.Proofs.YthcoigbkdbkojaaGreat
open Go.RowKit Go.MapKept
open V (hp_new hp_lt hp_below hp_alloc)

theorem rf_lit {w : World} {b : Nat} {t : TypeId} {cs : Array Value} {l : List (ByteArray × Vd)} (h : w.heap[b]? = some (.cells cs t (0, 0))) (hc : cs.toList = l.flatMap ecs) (hl : l.length ≤ 1000) : Rf w 4 (.slice (some ⟨b, 0, none⟩) l.length l.length) l.length (l.flatMap ecs) := by
  refine ⟨flat_len ecs 4 (fun _ => rfl) l, ecs_one l, .inr ⟨_, _, rfl, Nat.le_refl _, by unfold maxLen; omega, fun j u hu => ?_⟩⟩
  rw [add_lit, Nat.zero_add, cell_of_row _ _ _ _ _ _ h, ← Array.getElem?_toList, hc]
  exact hu

/-- The writes of a transfer. -/
theorem effM {B R : Nat} {vw av v : Value} {f t : ByteArray} {a b n : Int} {W : World} (h : Eff B R (stM vw av f t a b n 10) v W) : ∃ t1 k1 t2 k2 t3 k3, v = .agg #[.int .i64 1, .int .i64 0, .slice t1 0 k1, .slice t2 2 k2, .slice t3 2 k3] ∧ W.ownsRow B 54 4 (.slice t2 2 k2) 2 ((dnL [(f, (⟨1, a - n, emp⟩ : Vd).val), (t, (⟨1, b + n, emp⟩ : Vd).val)]).flatMap ecs) := by
  obtain ⟨t1, k1, t2, k2, t3, k3, e, h1, h2, h3, -⟩ := h.ex
  exact ⟨t1, k1, t2, k2, t3, k3, e, h2⟩

section
variable {w : World} {p B0 m : Nat} {av S : Value} {f t : ByteArray} {a b n : Int}

theorem runM_ok (hc : CodeAt w S xsM) (hpv : V.PV w p (stG (mdL [(f, ⟨1, a, emp⟩), (t, ⟨1, b, emp⟩)])) false m B0) (ha : Va w av [⟨2, 0, f⟩, ⟨2, 0, t⟩, ⟨1, n, emp⟩]) (hf : isKeyB f = true) (ht : isKeyB t = true) (hne : f ≠ t)
    (ra : inR a = true) (rb : inR b = true) (rn : inR n = true) (h5 : n ≤ a) (h6 : inR (a - n) = true) (h7 : inR (b + n) = true) :
    Calls Tryz.prog 12 #[.iface 35 (.pointer (some ⟨p, 0, none⟩)), .agg #[.string ⟨#[109, 111, 118, 101]⟩, .int .i64 3, S], av] w fun e w' => ∃ t1 k1 t2 k2 t3 k3, e = .returned (.agg #[.int .i64 1, .int .i64 0, .slice t1 0 k1, .slice t2 2 k2, .slice t3 2 k3]) ∧ w'.ownsRow (w.heap.size + 2) 54 4 (.slice t2 2 k2) 2 ((dnL [(f, (⟨1, a - n, emp⟩ : Vd).val), (t, (⟨1, b + n, emp⟩ : Vd).val)]).flatMap ecs) ∧ Below w.heap.size w w' := by
  have kf : f.size ≤ 64 := by unfold isKeyB at hf; have := of_decide_eq_true hf; omega
  have kt : t.size ≤ 64 := by unfold isKeyB at ht; have := of_decide_eq_true ht; omega
  have e0 : emp.size = 0 := by decide +kernel
  refine (exec_ok 35 p av S _ 3 xsM [⟨2, 0, f⟩, ⟨2, 0, t⟩, ⟨1, n, emp⟩] w 0 hc ha (by decide) (by show 3 ≤ 1000; decide) chkM ?_ rfl (stM (.iface 35 (.pointer (some ⟨p, 0, none⟩))) av f t a b n) rfl
    (fun ws mb M hb k x hx => goesM hpv ha hf ht hne ra rb rn 10 (fun _ => h5) (fun _ => h6) (fun _ => h7) ws mb M hb k x (by have := (List.getElem?_eq_some_iff.1 hx).1; simpa using this) hx) (by show 2 ≤ 1000; decide) ?_ ?_).mono ?_
  · intro x hx
    have : x = ⟨2, 0, f⟩ ∨ x = ⟨2, 0, t⟩ ∨ x = ⟨1, n, emp⟩ := by simpa using hx
    rcases this with rfl | rfl | rfl <;> simp [chk] <;> omega
  · intro x hx
    have : x = (f, (⟨1, a - n, emp⟩ : Vd).val) ∨ x = (t, (⟨1, b + n, emp⟩ : Vd).val) := by simpa [stM] using hx
    rcases this with rfl | rfl <;> (dsimp only; omega)
  · intro x hx
    have : x = (f, (⟨1, a - n, emp⟩ : Vd).val) ∨ x = (t, (⟨1, b + n, emp⟩ : Vd).val) := by simpa [stM] using hx
    rcases this with rfl | rfl
    · exact ⟨_, rfl, by show emp.size ≤ _; omega⟩
    · exact ⟨_, rfl, by show emp.size ≤ _; omega⟩
  · rintro e w' ⟨v, rfl, hE, hb2⟩
    obtain ⟨t1, k1, t2, k2, t3, k3, rfl, h⟩ := effM hE
    exact ⟨t1, k1, t2, k2, t3, k3, rfl, h, hb2⟩

theorem runM_no (hc : CodeAt w S xsM) (hpv : V.PV w p (stG (mdL [(f, ⟨1, a, emp⟩), (t, ⟨1, b, emp⟩)])) false m B0) (ha : Va w av [⟨2, 0, f⟩, ⟨2, 0, t⟩, ⟨1, n, emp⟩]) (hf : isKeyB f = true) (ht : isKeyB t = true) (hne : f ≠ t)
    (ra : inR a = true) (rb : inR b = true) (rn : inR n = true) (k0 : Nat) (E : Int) (hcase : (k0 = 5 ∧ E = 2 ∧ a < n) ∨ (k0 = 6 ∧ E = 3 ∧ n ≤ a ∧ inR (a - n) = false) ∨ (k0 = 7 ∧ E = 3 ∧ n ≤ a ∧ inR (a - n) = true ∧ inR (b + n) = false)) :
    Calls Tryz.prog 12 #[.iface 35 (.pointer (some ⟨p, 0, none⟩)), .agg #[.string ⟨#[109, 111, 118, 101]⟩, .int .i64 3, S], av] w fun e w' => ∃ al q cl, e = .returned (.agg #[.int .i64 E, .int .i64 k0, .slice none 0 0, .slice none 0 0, .slice al q cl]) ∧ Below w.heap.size w w' := by
  have kf : f.size ≤ 64 := by unfold isKeyB at hf; have := of_decide_eq_true hf; omega
  have kt : t.size ≤ 64 := by unfold isKeyB at ht; have := of_decide_eq_true ht; omega
  have hk0 : k0 < xsM.length := by show k0 < 10; omega
  refine (exec_no 35 p av S _ 3 xsM [⟨2, 0, f⟩, ⟨2, 0, t⟩, ⟨1, n, emp⟩] w 0 hc ha (by decide) (by show 3 ≤ 1000; decide) chkM ?_ rfl (stM (.iface 35 (.pointer (some ⟨p, 0, none⟩))) av f t a b n) rfl k0 hk0 E
    (fun ws mb M hb k x hk hx => goesM hpv ha hf ht hne ra rb rn k0 (by omega) (fun _ => ?_) (fun _ => by omega) ws mb M hb k x hk hx) ?_).mono ?_
  · intro x hx
    have : x = ⟨2, 0, f⟩ ∨ x = ⟨2, 0, t⟩ ∨ x = ⟨1, n, emp⟩ := by simpa using hx
    rcases this with rfl | rfl | rfl <;> simp [chk] <;> omega
  · rcases hcase with ⟨h, -⟩ | ⟨h, -⟩ | ⟨-, -, -, h, -⟩
    · omega
    · omega
    · exact h
  · intro ws mb M hb x hx
    rcases hcase with ⟨rfl, rfl, h⟩ | ⟨rfl, rfl, h, h2⟩ | ⟨rfl, rfl, h, h2, h3⟩
    · injection hx with hx
      subst hx
      refine n_need rfl (by decide) (by decide) (by decide) (by decide) ?_
      show holdsB 6 (cmpV 1 a emp 1 n emp) = false
      simp [holdsB, cmpV, cmpI]
      omega
    · injection hx with hx
      subst hx
      exact n_sub rfl a n (by decide) (by decide) (by decide) (by decide) (by decide) (by decide) rfl rfl ra rn h2
    · injection hx with hx
      subst hx
      exact n_add rfl b n (by decide) (by decide) (by decide) (by decide) (by decide) (by decide) rfl rfl rb rn h3
  · rintro e w' ⟨v, rfl, ⟨al, q, cl, rfl⟩, hb2⟩
    exact ⟨al, q, cl, rfl, hb2⟩

end

end Go.Proofs.YthcoigbkdbkojaaGreat

namespace Go.Proofs.YthcoigbkdbkojaaGreat
open Go.RowKit Go.MapKept
open V (hp_new hp_lt hp_below hp_alloc)

/-- What comes behind a world with one block more. -/
def Inn (w4 : World) (o : Obj) (W : World) : Prop := Below (w4.heap.size + 1) (w4.alloc o) W
theorem Inn.sz {w4 W : World} {o : Obj} (h : Inn w4 o W) : w4.heap.size + 1 ≤ W.heap.size := by
  have h1 := Below.size h
  simpa using h1
theorem Inn.al {w4 W : World} {o : Obj} (h : Inn w4 o W) (o' : Obj) : Inn w4 o (W.alloc o') := Below.alloc h h.sz o'
theorem Inn.go {w4 W W' : World} {o : Obj} (h : Inn w4 o W) (hb : Below W.heap.size W W') : Inn w4 o W' := Below.trans h (hb.mono h.sz)
theorem Inn.sets {w4 W : World} {o : Obj} (h : Inn w4 o W) {r : Nat} (hr : w4.heap.size + 1 ≤ r) (x y z u v : Value) : Inn w4 o (((((W.setCell ⟨r, 0, none⟩ x).setCell ⟨r, 1, none⟩ y).setCell ⟨r, 2, none⟩ z).setCell ⟨r, 3, none⟩ u).setCell ⟨r, 4, none⟩ v) :=
  Below.setCell (p := ⟨r, 4, none⟩) (Below.setCell (p := ⟨r, 3, none⟩) (Below.setCell (p := ⟨r, 2, none⟩) (Below.setCell (p := ⟨r, 1, none⟩) (Below.setCell (p := ⟨r, 0, none⟩) h hr x) hr y) hr z) hr u) hr v

/-- A box for an effect. -/
def Box (W w4 : World) (r : Nat) : Prop := W.heap[r]? = some (.cells #[.int .i64 0, .int .i64 0, .slice none 0 0, .slice none 0 0, .slice none 0 0] 43 (0, 0)) ∧ r < W.heap.size ∧ w4.heap.size + 1 ≤ r
theorem Box.go {W W' w4 : World} {r : Nat} (h : Box W w4 r) (hb : Below W.heap.size W W') : Box W' w4 r := ⟨blk_of hb h.1 h.2.1, Nat.lt_of_lt_of_le h.2.1 hb.size, h.2.2⟩
theorem Box.go2 {W W1 W' w4 : World} {r : Nat} (h : Box W w4 r) (h1 : Below W.heap.size W W1) (hb : Below W1.heap.size W1 W') : Box W' w4 r := (h.go h1).go hb
theorem Box.nw {w4 P : World} {o : Obj} (h : Inn w4 o P) : Box (P.alloc (.cells #[.int .i64 0, .int .i64 0, .slice none 0 0, .slice none 0 0, .slice none 0 0] 43)) w4 P.heap.size := ⟨hp_new P _, by simp, h.sz⟩
theorem Box.mk2 {w4 P W : World} {o : Obj} (h : Inn w4 o P) (hb : Below (P.alloc (.cells #[.int .i64 0, .int .i64 0, .slice none 0 0, .slice none 0 0, .slice none 0 0] 43)).heap.size (P.alloc (.cells #[.int .i64 0, .int .i64 0, .slice none 0 0, .slice none 0 0, .slice none 0 0] 43)) W) : Box W w4 P.heap.size := (Box.nw h).go hb
theorem Box.mk1 {w4 W : World} {o : Obj} (hb : Below ((w4.alloc o).alloc (.cells #[.int .i64 0, .int .i64 0, .slice none 0 0, .slice none 0 0, .slice none 0 0] 43)).drew.heap.size ((w4.alloc o).alloc (.cells #[.int .i64 0, .int .i64 0, .slice none 0 0, .slice none 0 0, .slice none 0 0] 43)).drew W) : Box W w4 (w4.heap.size + 1) := by
  have h0 : Inn w4 o (w4.alloc o) := Below.refl _ _
  have h1 := ((Box.nw h0).go ((Below.refl _ _).drew)).go hb
  rwa [show (w4.alloc o).heap.size = w4.heap.size + 1 by simp] at h1
theorem Box.mk3 {w4 P W : World} {o A : Obj} (h : Inn w4 o P) (hb : Below ((P.alloc A).alloc (.cells #[.int .i64 0, .int .i64 0, .slice none 0 0, .slice none 0 0, .slice none 0 0] 43)).heap.size ((P.alloc A).alloc (.cells #[.int .i64 0, .int .i64 0, .slice none 0 0, .slice none 0 0, .slice none 0 0] 43)) W) : Box W w4 (P.heap.size + 1) := by
  have h1 := (Box.nw (h.al A)).go hb
  rwa [show (P.alloc A).heap.size = P.heap.size + 1 by simp] at h1
theorem Box.mk4 {w4 P W : World} {o A : Obj} (h : Inn w4 o P) (hb : Below ((P.alloc (.cells #[.int .i64 0, .int .i64 0, .slice none 0 0, .slice none 0 0, .slice none 0 0] 43)).alloc A).heap.size ((P.alloc (.cells #[.int .i64 0, .int .i64 0, .slice none 0 0, .slice none 0 0, .slice none 0 0] 43)).alloc A) W) : Box W w4 P.heap.size := ((Box.nw h).go (below1 _ A)).go hb

theorem cut43 {A : Type} {F : A → World → Prop} {a : A} {w9 : World} {r : Nat} {x y z u v : Value} (hx : w9.heap[r]? = some (.cells #[.int .i64 0, .int .i64 0, .slice none 0 0, .slice none 0 0, .slice none 0 0] 43 (0, 0))) (k : ∀ W, W.heap[r]? = some (.cells #[x, y, z, u, v] 43 (0, 0)) → Kept (fun q => q = r) w9 W → F a W) : F a (((((w9.setCell ⟨r, 0, none⟩ x).setCell ⟨r, 1, none⟩ y).setCell ⟨r, 2, none⟩ z).setCell ⟨r, 3, none⟩ u).setCell ⟨r, 4, none⟩ v) :=
  k _ (set5 hx _ _ _ _ _) ((((((Kept.refl (fun q => q = r) w9).setCell (p := ⟨r, 0, none⟩) (fun _ => rfl) _).setCell (p := ⟨r, 1, none⟩) (fun _ => rfl) _).setCell (p := ⟨r, 2, none⟩) (fun _ => rfl) _).setCell (p := ⟨r, 3, none⟩) (fun _ => rfl) _).setCell (p := ⟨r, 4, none⟩) (fun _ => rfl) _)

theorem mdL_two_size (f t : ByteArray) (d e : Vd) (hne : f ≠ t) (kf : f.size ≤ 64) (kt : t.size ≤ 64) : ∀ x ∈ mdL [(f, d), (t, e)], x.1.size ≤ 1000000 := by
  intro x hx
  rcases mdL_two f t d e hne with h | h
  · rw [h] at hx
    have : x = (f, d) ∨ x = (t, e) := by simpa using hx
    rcases this with rfl | rfl <;> (dsimp only; omega)
  · rw [h] at hx
    have : x = (t, e) ∨ x = (f, d) := by simpa using hx
    rcases this with rfl | rfl <;> (dsimp only; omega)

set_option maxRecDepth 100000 in
set_option maxHeartbeats 16000000 in
theorem moves_need (a b n : Int) (f t : ByteArray) (w : World) (hf : isKeyB f = true) (ht : isKeyB t = true) (hne : f ≠ t) (ra : inR a = true) (rb : inR b = true) (rn : inR n = true) (hlt : a < n) :
    Calls Tryz.prog 8 #[.int .i64 a, .int .i64 b, .int .i64 n, .string f, .string t] w fun e w' => e = .returned (.bool true) ∧ Below w.heap.size w w' := by
  have hq := toList_ne hne
  have kf : f.size ≤ 64 := by unfold isKeyB at hf; have := of_decide_eq_true hf; omega
  have kt : t.size ≤ 64 := by unfold isKeyB at ht; have := of_decide_eq_true ht; omega
  have HKf := hid (fun W => riskey_any f W)
  rw [hf] at HKf
  have HKt := hid (fun W => riskey_any t W)
  rw [ht] at HKt
  have HNa := hid (fun W => number_any a W)
  have HNb := hid (fun W => number_any b W)
  have HNn := hid (fun W => number_any n W)
  have HTf := hid (fun W => text_any f W)
  have HTt := hid (fun W => text_any t W)
  have HKn := hid (fun W => known_any W)
  have HMD := hid (fun (w3 : World) => made_any (.slice (some ⟨w3.heap.size, 0, none⟩) 2 2) [(f, ⟨1, a, emp⟩), (t, ⟨1, b, emp⟩)] (w3.alloc (.cells #[.string f, .int .i64 1, .int .i64 a, .string emp, .string t, .int .i64 1, .int .i64 b, .string emp] 54)) (rf_lit (l := [(f, ⟨1, a, emp⟩), (t, ⟨1, b, emp⟩)]) (hp_new w3 _) rfl (by show 2 ≤ 1000; decide)) (by show 2 ≤ 400; decide) (by
    intro x hx
    have : x = (f, ⟨1, a, emp⟩) ∨ x = (t, ⟨1, b, emp⟩) := by simpa using hx
    rcases this with rfl | rfl
    · exact ⟨hf, by simp [chk], by show (1 : Int) ≠ 0; decide⟩
    · exact ⟨ht, by simp [chk], by show (1 : Int) ≠ 0; decide⟩))
  rw [mdL_two_len f t ⟨1, a, emp⟩ ⟨1, b, emp⟩ hne] at HMD
  have HST := hid (fun (W : World) (a4 : Option Addr) (c4 : Nat) (h : Rf W 4 (.slice a4 2 c4) 2 ((mdL [(f, (⟨1, a, emp⟩ : Vd)), (t, ⟨1, b, emp⟩)]).flatMap ecs)) => store_any (.slice a4 2 c4) none 0 0 (mdL [(f, ⟨1, a, emp⟩), (t, ⟨1, b, emp⟩)]) W (by rw [mdL_two_len f t _ _ hne]; exact h) (by rw [mdL_two_len f t _ _ hne]; decide) (mdL_two_size f t ⟨1, a, emp⟩ ⟨1, b, emp⟩ hne kf kt))
  have HRUN := hid (fun (W : World) (p m B0 : Nat) (av S : Value) (X1 : CodeAt W S xsM) (X2 : V.PV W p (stG (mdL [(f, ⟨1, a, emp⟩), (t, ⟨1, b, emp⟩)])) false m B0) (X3 : Va W av [⟨2, 0, f⟩, ⟨2, 0, t⟩, ⟨1, n, emp⟩]) => runM_no X1 X2 X3 hf ht hne ra rb rn 5 2 (.inl ⟨rfl, rfl, hlt⟩))
  go_enter Tryz.func8, Tryz.ntmps8
  go_upto_region 5 with (first
    | (go_at_call 19
       refine (HKf.out _).mono ?_
       rintro e w' ⟨rfl, e1⟩
       rw [e1]
       clear e1 w' HKf)
    | (go_at_call 19
       refine (HKt.out _).mono ?_
       rintro e w' ⟨rfl, e1⟩
       rw [e1]
       clear e1 w' HKt)
    | (go_at_call 22
       refine (HNa.out _).mono ?_
       rintro e w2 ⟨rfl, hb2⟩
       have H2 := hid (And.intro (code_lit (xs := xsM) (blk_of hb2 (two1 w _ _) (by simp; omega)) rfl) (And.intro (blk_of hb2 (two2 w _ _) (by simp)) (below_on (below2 w _ _) hb2)))
       clear hb2 HNa)
    | (go_at_call 22
       refine (HNb.out _).mono ?_
       rintro e w3 ⟨rfl, hb3⟩
       have H3 := hid (And.intro (H2.out.1.below hb3) (And.intro (blk_of hb3 H2.out.2.1 (hp_lt H2.out.2.1)) (below_on H2.out.2.2 hb3)))
       clear hb3 HNb)
    | (go_at_call 9
       refine (HMD.out w3).mono ?_
       rintro e w4 ⟨a4, c4, rfl, hR4, hb4'⟩
       have hb4 := below_on (below1 w3 _) hb4'
       have H4 := hid (And.intro (H3.out.1.below hb4) (And.intro (blk_of hb4 H3.out.2.1 (hp_lt H3.out.2.1)) (And.intro (below_on H3.out.2.2 hb4) hR4)))
       clear hb4 hb4' hR4 HMD))
  have HA := hid (show ∀ W, Inn w4 (.cells #[.slice a4 2 c4, .slice none 0 0] 33) W → (W.cell? ⟨w4.heap.size, 0, none⟩ = some (.slice a4 2 c4) ∧ W.cell? ⟨w4.heap.size, 1, none⟩ = some (.slice none 0 0) ∧ W.cell? ⟨w.heap.size + 1, 0, none⟩ = some (.string ⟨#[109, 111, 118, 101]⟩) ∧ W.cell? ⟨w.heap.size + 1, 1, none⟩ = some (.int .i64 3) ∧ W.cell? ⟨w.heap.size + 1, 2, none⟩ = some (.slice (some ⟨w.heap.size, 0, none⟩) 10 10)) ∧ (Below w4.heap.size w4 W ∧ Below w.heap.size w W) from fun W hb => by
    have g1 := blk_of hb (hp_new w4 _) (Nat.lt_succ_self _)
    have hbb : Below w4.heap.size w4 W := (below1 w4 _).trans (Below.mono hb (Nat.le_succ _))
    have g2 := blk_of hbb H4.out.2.1 (hp_lt H4.out.2.1)
    exact ⟨⟨by rw [cell_of_row _ _ _ _ _ _ g1]; rfl, by rw [cell_of_row _ _ _ _ _ _ g1]; rfl, by rw [cell_of_row _ _ _ _ _ _ g2]; rfl, by rw [cell_of_row _ _ _ _ _ _ g2]; rfl, by rw [cell_of_row _ _ _ _ _ _ g2]; rfl⟩, hbb, below_on H4.out.2.2.1 hbb⟩)
  have es : (w4.alloc (.cells #[.slice a4 2 c4, .slice none 0 0] 33)).heap.size = w4.heap.size + 1 := by simp
  have H0 := hid (show Inn w4 (.cells #[.slice a4 2 c4, .slice none 0 0] 33) (w4.alloc (.cells #[.slice a4 2 c4, .slice none 0 0] 33)).drew from (Below.refl _ _).drew)
  have HS0 := hid (HST.out (w4.alloc (.cells #[.slice a4 2 c4, .slice none 0 0] 33)).drew a4 c4 (H4.out.2.2.2.below (HA.out _ H0.out).2.1))
  have H01 := hid (show Inn w4 (.cells #[.slice a4 2 c4, .slice none 0 0] 33) ((w4.alloc (.cells #[.slice a4 2 c4, .slice none 0 0] 33)).alloc (.cells #[.int .i64 0, .int .i64 0, .slice none 0 0, .slice none 0 0, .slice none 0 0] 43)).drew from Below.drew ((show Inn w4 (.cells #[.slice a4 2 c4, .slice none 0 0] 33) (w4.alloc (.cells #[.slice a4 2 c4, .slice none 0 0] 33)) from Below.refl _ _).al (.cells #[.int .i64 0, .int .i64 0, .slice none 0 0, .slice none 0 0, .slice none 0 0] 43)))
  have HS1 := hid (HST.out ((w4.alloc (.cells #[.slice a4 2 c4, .slice none 0 0] 33)).alloc (.cells #[.int .i64 0, .int .i64 0, .slice none 0 0, .slice none 0 0, .slice none 0 0] 43)).drew a4 c4 (H4.out.2.2.2.below (HA.out _ H01.out).2.1))
  clear HST
  go_region_held3 (fun W => W.cell? ⟨w4.heap.size, 0, none⟩ = some (.slice a4 2 c4) ∧ W.cell? ⟨w4.heap.size, 1, none⟩ = some (.slice none 0 0) ∧ W.cell? ⟨w.heap.size + 1, 0, none⟩ = some (.string ⟨#[109, 111, 118, 101]⟩) ∧ W.cell? ⟨w.heap.size + 1, 1, none⟩ = some (.int .i64 3) ∧ W.cell? ⟨w.heap.size + 1, 2, none⟩ = some (.slice (some ⟨w.heap.size, 0, none⟩) 10 10))
    (first | with_reducible exact (HA.out _ H9.out).1 | with_reducible exact (HA.out _ (H9.out.al _)).1 | with_reducible exact HA9.out | with_reducible exact (HA.out _ H8.out).1 | with_reducible exact (HA.out _ (H8.out.al _)).1 | with_reducible exact (HA.out _ ((H8.out.al _).al _)).1 | with_reducible exact (HA.out _ H7.out).1 | with_reducible exact (HA.out _ (H7.out.al _)).1 | with_reducible exact (HA.out _ H6.out).1 | with_reducible exact (HA.out _ (H6.out.al _)).1 | with_reducible exact (HA.out _ H5.out).1 | with_reducible exact (HA.out _ (H5.out.al _)).1 | with_reducible exact (HA.out _ H0.out).1 | with_reducible exact (HA.out _ H01.out).1)
    (first
    | (go_at_call 10
       with_reducible refine HS0.out.mono ?_
       rintro e w5 ⟨p, rfl, hpv, hb5⟩
       have H5 := hid (H0.out.go hb5)
       have HP5 := hid hpv
       clear hpv hb5 HS0 HS1)
    | (go_at_call 10
       with_reducible refine HS1.out.mono ?_
       rintro e w5 ⟨p, rfl, hpv, hb5⟩
       have H5 := hid (H01.out.go hb5)
       have HP5 := hid hpv
       have HX := hid (show Box w5 w4 (w4.heap.size + 1) from Box.mk1 hb5)
       clear hpv hb5 HS0 HS1)
    | (go_at_call 23
       with_reducible refine (HTf.out w5).mono ?_
       rintro e w6 ⟨rfl, hb6⟩
       have H6 := hid (H5.out.go hb6)
       have HP6 := hid (HP5.out.below hb6)
       first | (replace HX := hid (HX.out.go hb6)) | skip
       clear hb6 HTf)
    | (go_at_call 23
       with_reducible refine (HTf.out (w5.alloc (.cells #[.int .i64 0, .int .i64 0, .slice none 0 0, .slice none 0 0, .slice none 0 0] 43))).mono ?_
       rintro e w6 ⟨rfl, hb6⟩
       have H6 := hid ((H5.out.al (.cells #[.int .i64 0, .int .i64 0, .slice none 0 0, .slice none 0 0, .slice none 0 0] 43)).go hb6)
       have HP6 := hid ((HP5.out.below (below1 w5 (.cells #[.int .i64 0, .int .i64 0, .slice none 0 0, .slice none 0 0, .slice none 0 0] 43))).below hb6)
       have HX := hid (show Box w6 w4 w5.heap.size from Box.mk2 H5.out hb6)
       clear hb6 HTf)
    | (go_at_call 23
       with_reducible refine (HTt.out w6).mono ?_
       rintro e w7 ⟨rfl, hb7⟩
       have H7 := hid (H6.out.go hb7)
       have HP7 := hid (HP6.out.below hb7)
       first | (replace HX := hid (HX.out.go hb7)) | skip
       clear hb7 HTt)
    | (go_at_call 23
       with_reducible refine (HTt.out (w6.alloc (.cells #[.int .i64 0, .int .i64 0, .slice none 0 0, .slice none 0 0, .slice none 0 0] 43))).mono ?_
       rintro e w7 ⟨rfl, hb7⟩
       have H7 := hid ((H6.out.al (.cells #[.int .i64 0, .int .i64 0, .slice none 0 0, .slice none 0 0, .slice none 0 0] 43)).go hb7)
       have HP7 := hid ((HP6.out.below (below1 w6 (.cells #[.int .i64 0, .int .i64 0, .slice none 0 0, .slice none 0 0, .slice none 0 0] 43))).below hb7)
       have HX := hid (show Box w7 w4 w6.heap.size from Box.mk2 H6.out hb7)
       clear hb7 HTt)
    | (go_at_call 22
       with_reducible refine (HNn.out w7).mono ?_
       rintro e w8 ⟨rfl, hb8⟩
       have H8 := hid (H7.out.go hb8)
       have HP8 := hid (HP7.out.below hb8)
       first | (replace HX := hid (HX.out.go hb8)) | skip
       have hpa := HP8.out.below (below1 w8 (.cells #[.int .i64 2, .int .i64 0, .string f, .int .i64 2, .int .i64 0, .string t, .int .i64 1, .int .i64 n, .string emp] 28))
       have hva := (va_lit (l := [⟨2, 0, f⟩, ⟨2, 0, t⟩, ⟨1, n, emp⟩]) (hp_new w8 (.cells #[.int .i64 2, .int .i64 0, .string f, .int .i64 2, .int .i64 0, .string t, .int .i64 1, .int .i64 n, .string emp] 28)) rfl)
       have HR1 := hid (show Calls Tryz.prog 12 #[.iface 35 (.pointer (some ⟨p, 0, none⟩)), .agg #[.string ⟨#[109, 111, 118, 101]⟩, .int .i64 3, .slice (some ⟨w.heap.size, 0, none⟩) 10 10], .slice (some ⟨w8.heap.size, 0, none⟩) 3 3] (w8.alloc (.cells #[.int .i64 2, .int .i64 0, .string f, .int .i64 2, .int .i64 0, .string t, .int .i64 1, .int .i64 n, .string emp] 28)) _ from HRUN.out _ _ _ _ _ _ (H4.out.1.below (HA.out _ (H8.out.al (.cells #[.int .i64 2, .int .i64 0, .string f, .int .i64 2, .int .i64 0, .string t, .int .i64 1, .int .i64 n, .string emp] 28))).2.1) (hpa) hva)
       have HR2 := hid (show Calls Tryz.prog 12 #[.iface 35 (.pointer (some ⟨p, 0, none⟩)), .agg #[.string ⟨#[109, 111, 118, 101]⟩, .int .i64 3, .slice (some ⟨w.heap.size, 0, none⟩) 10 10], .slice (some ⟨w8.heap.size, 0, none⟩) 3 3] ((w8.alloc (.cells #[.int .i64 2, .int .i64 0, .string f, .int .i64 2, .int .i64 0, .string t, .int .i64 1, .int .i64 n, .string emp] 28)).alloc (.cells #[.int .i64 0, .int .i64 0, .slice none 0 0, .slice none 0 0, .slice none 0 0] 43)) _ from HRUN.out _ _ _ _ _ _ (H4.out.1.below (HA.out _ ((H8.out.al (.cells #[.int .i64 2, .int .i64 0, .string f, .int .i64 2, .int .i64 0, .string t, .int .i64 1, .int .i64 n, .string emp] 28)).al (.cells #[.int .i64 0, .int .i64 0, .slice none 0 0, .slice none 0 0, .slice none 0 0] 43))).2.1) (hpa.below (below1 _ (.cells #[.int .i64 0, .int .i64 0, .slice none 0 0, .slice none 0 0, .slice none 0 0] 43))) (hva.below (below1 _ (.cells #[.int .i64 0, .int .i64 0, .slice none 0 0, .slice none 0 0, .slice none 0 0] 43))))
       have hza : (w8.alloc (.cells #[.int .i64 0, .int .i64 0, .slice none 0 0, .slice none 0 0, .slice none 0 0] 43)).heap.size = w8.heap.size + 1 := by simp
       have hva3 := (va_lit (l := [⟨2, 0, f⟩, ⟨2, 0, t⟩, ⟨1, n, emp⟩]) (hp_new (w8.alloc (.cells #[.int .i64 0, .int .i64 0, .slice none 0 0, .slice none 0 0, .slice none 0 0] 43)) (.cells #[.int .i64 2, .int .i64 0, .string f, .int .i64 2, .int .i64 0, .string t, .int .i64 1, .int .i64 n, .string emp] 28)) rfl)
       rw [hza] at hva3
       have HR3 := hid (show Calls Tryz.prog 12 #[.iface 35 (.pointer (some ⟨p, 0, none⟩)), .agg #[.string ⟨#[109, 111, 118, 101]⟩, .int .i64 3, .slice (some ⟨w.heap.size, 0, none⟩) 10 10], .slice (some ⟨w8.heap.size + 1, 0, none⟩) 3 3] ((w8.alloc (.cells #[.int .i64 0, .int .i64 0, .slice none 0 0, .slice none 0 0, .slice none 0 0] 43)).alloc (.cells #[.int .i64 2, .int .i64 0, .string f, .int .i64 2, .int .i64 0, .string t, .int .i64 1, .int .i64 n, .string emp] 28)) _ from HRUN.out _ _ _ _ _ _ (H4.out.1.below (HA.out _ ((H8.out.al (.cells #[.int .i64 0, .int .i64 0, .slice none 0 0, .slice none 0 0, .slice none 0 0] 43)).al (.cells #[.int .i64 2, .int .i64 0, .string f, .int .i64 2, .int .i64 0, .string t, .int .i64 1, .int .i64 n, .string emp] 28))).2.1) ((HP8.out.below (below1 w8 (.cells #[.int .i64 0, .int .i64 0, .slice none 0 0, .slice none 0 0, .slice none 0 0] 43))).below (below1 _ (.cells #[.int .i64 2, .int .i64 0, .string f, .int .i64 2, .int .i64 0, .string t, .int .i64 1, .int .i64 n, .string emp] 28))) hva3)
       clear hpa hva hza hva3
       clear hb8 HNn)
    | (go_at_call 22
       with_reducible refine (HNn.out (w7.alloc (.cells #[.int .i64 0, .int .i64 0, .slice none 0 0, .slice none 0 0, .slice none 0 0] 43))).mono ?_
       rintro e w8 ⟨rfl, hb8⟩
       have H8 := hid ((H7.out.al (.cells #[.int .i64 0, .int .i64 0, .slice none 0 0, .slice none 0 0, .slice none 0 0] 43)).go hb8)
       have HP8 := hid ((HP7.out.below (below1 w7 (.cells #[.int .i64 0, .int .i64 0, .slice none 0 0, .slice none 0 0, .slice none 0 0] 43))).below hb8)
       have HX := hid (show Box w8 w4 w7.heap.size from Box.mk2 H7.out hb8)
       have hpa := HP8.out.below (below1 w8 (.cells #[.int .i64 2, .int .i64 0, .string f, .int .i64 2, .int .i64 0, .string t, .int .i64 1, .int .i64 n, .string emp] 28))
       have hva := (va_lit (l := [⟨2, 0, f⟩, ⟨2, 0, t⟩, ⟨1, n, emp⟩]) (hp_new w8 (.cells #[.int .i64 2, .int .i64 0, .string f, .int .i64 2, .int .i64 0, .string t, .int .i64 1, .int .i64 n, .string emp] 28)) rfl)
       have HR1 := hid (show Calls Tryz.prog 12 #[.iface 35 (.pointer (some ⟨p, 0, none⟩)), .agg #[.string ⟨#[109, 111, 118, 101]⟩, .int .i64 3, .slice (some ⟨w.heap.size, 0, none⟩) 10 10], .slice (some ⟨w8.heap.size, 0, none⟩) 3 3] (w8.alloc (.cells #[.int .i64 2, .int .i64 0, .string f, .int .i64 2, .int .i64 0, .string t, .int .i64 1, .int .i64 n, .string emp] 28)) _ from HRUN.out _ _ _ _ _ _ (H4.out.1.below (HA.out _ (H8.out.al (.cells #[.int .i64 2, .int .i64 0, .string f, .int .i64 2, .int .i64 0, .string t, .int .i64 1, .int .i64 n, .string emp] 28))).2.1) (hpa) hva)
       have HR2 := hid (show Calls Tryz.prog 12 #[.iface 35 (.pointer (some ⟨p, 0, none⟩)), .agg #[.string ⟨#[109, 111, 118, 101]⟩, .int .i64 3, .slice (some ⟨w.heap.size, 0, none⟩) 10 10], .slice (some ⟨w8.heap.size, 0, none⟩) 3 3] ((w8.alloc (.cells #[.int .i64 2, .int .i64 0, .string f, .int .i64 2, .int .i64 0, .string t, .int .i64 1, .int .i64 n, .string emp] 28)).alloc (.cells #[.int .i64 0, .int .i64 0, .slice none 0 0, .slice none 0 0, .slice none 0 0] 43)) _ from HRUN.out _ _ _ _ _ _ (H4.out.1.below (HA.out _ ((H8.out.al (.cells #[.int .i64 2, .int .i64 0, .string f, .int .i64 2, .int .i64 0, .string t, .int .i64 1, .int .i64 n, .string emp] 28)).al (.cells #[.int .i64 0, .int .i64 0, .slice none 0 0, .slice none 0 0, .slice none 0 0] 43))).2.1) (hpa.below (below1 _ (.cells #[.int .i64 0, .int .i64 0, .slice none 0 0, .slice none 0 0, .slice none 0 0] 43))) (hva.below (below1 _ (.cells #[.int .i64 0, .int .i64 0, .slice none 0 0, .slice none 0 0, .slice none 0 0] 43))))
       have hza : (w8.alloc (.cells #[.int .i64 0, .int .i64 0, .slice none 0 0, .slice none 0 0, .slice none 0 0] 43)).heap.size = w8.heap.size + 1 := by simp
       have hva3 := (va_lit (l := [⟨2, 0, f⟩, ⟨2, 0, t⟩, ⟨1, n, emp⟩]) (hp_new (w8.alloc (.cells #[.int .i64 0, .int .i64 0, .slice none 0 0, .slice none 0 0, .slice none 0 0] 43)) (.cells #[.int .i64 2, .int .i64 0, .string f, .int .i64 2, .int .i64 0, .string t, .int .i64 1, .int .i64 n, .string emp] 28)) rfl)
       rw [hza] at hva3
       have HR3 := hid (show Calls Tryz.prog 12 #[.iface 35 (.pointer (some ⟨p, 0, none⟩)), .agg #[.string ⟨#[109, 111, 118, 101]⟩, .int .i64 3, .slice (some ⟨w.heap.size, 0, none⟩) 10 10], .slice (some ⟨w8.heap.size + 1, 0, none⟩) 3 3] ((w8.alloc (.cells #[.int .i64 0, .int .i64 0, .slice none 0 0, .slice none 0 0, .slice none 0 0] 43)).alloc (.cells #[.int .i64 2, .int .i64 0, .string f, .int .i64 2, .int .i64 0, .string t, .int .i64 1, .int .i64 n, .string emp] 28)) _ from HRUN.out _ _ _ _ _ _ (H4.out.1.below (HA.out _ ((H8.out.al (.cells #[.int .i64 0, .int .i64 0, .slice none 0 0, .slice none 0 0, .slice none 0 0] 43)).al (.cells #[.int .i64 2, .int .i64 0, .string f, .int .i64 2, .int .i64 0, .string t, .int .i64 1, .int .i64 n, .string emp] 28))).2.1) ((HP8.out.below (below1 w8 (.cells #[.int .i64 0, .int .i64 0, .slice none 0 0, .slice none 0 0, .slice none 0 0] 43))).below (below1 _ (.cells #[.int .i64 2, .int .i64 0, .string f, .int .i64 2, .int .i64 0, .string t, .int .i64 1, .int .i64 n, .string emp] 28))) hva3)
       clear hpa hva hza hva3
       clear hb8 HNn)
    | (go_at_call 12
       with_reducible refine HR1.out.mono ?_
       rintro e w9 ⟨al, q, cl, rfl, hb9⟩
       have H9 := hid ((H8.out.al (.cells #[.int .i64 2, .int .i64 0, .string f, .int .i64 2, .int .i64 0, .string t, .int .i64 1, .int .i64 n, .string emp] 28)).go hb9)
       first | (replace HX := hid (HX.out.go2 (below1 w8 (.cells #[.int .i64 2, .int .i64 0, .string f, .int .i64 2, .int .i64 0, .string t, .int .i64 1, .int .i64 n, .string emp] 28)) hb9); have HA9 := hid (HA.out _ (H9.out.sets HX.out.2.2 (.int .i64 2) (.int .i64 5) (.slice none 0 0) (.slice none 0 0) (.slice al q cl))).1; obtain ⟨x0, x1, x2, x3, x4, x5⟩ := cells5f HX.out.1; have hxz := HX.out.2.1) | skip
       have HW9 := hid (True.intro)
       clear hb9 HR1 HR2 HR3)
    | (go_at_call 12
       with_reducible refine HR2.out.mono ?_
       rintro e w9 ⟨al, q, cl, rfl, hb9⟩
       have H9 := hid (((H8.out.al (.cells #[.int .i64 2, .int .i64 0, .string f, .int .i64 2, .int .i64 0, .string t, .int .i64 1, .int .i64 n, .string emp] 28)).al (.cells #[.int .i64 0, .int .i64 0, .slice none 0 0, .slice none 0 0, .slice none 0 0] 43)).go hb9)
       have HX := hid (show Box w9 w4 (w8.heap.size + 1) from Box.mk3 H8.out hb9)
       have HA9 := hid (HA.out _ (H9.out.sets HX.out.2.2 (.int .i64 2) (.int .i64 5) (.slice none 0 0) (.slice none 0 0) (.slice al q cl))).1
       obtain ⟨x0, x1, x2, x3, x4, x5⟩ := cells5f HX.out.1
       have hxz := HX.out.2.1
       have HW9 := hid (True.intro)
       clear hb9 HR1 HR2 HR3)
    | (go_at_call 12
       with_reducible refine HR3.out.mono ?_
       rintro e w9 ⟨al, q, cl, rfl, hb9⟩
       have H9 := hid (((H8.out.al (.cells #[.int .i64 0, .int .i64 0, .slice none 0 0, .slice none 0 0, .slice none 0 0] 43)).al (.cells #[.int .i64 2, .int .i64 0, .string f, .int .i64 2, .int .i64 0, .string t, .int .i64 1, .int .i64 n, .string emp] 28)).go hb9)
       have HX := hid (show Box w9 w4 w8.heap.size from Box.mk4 H8.out hb9)
       have HA9 := hid (HA.out _ (H9.out.sets HX.out.2.2 (.int .i64 2) (.int .i64 5) (.slice none 0 0) (.slice none 0 0) (.slice al q cl))).1
       obtain ⟨x0, x1, x2, x3, x4, x5⟩ := cells5f HX.out.1
       have hxz := HX.out.2.1
       have HW9 := hid (True.intro)
       clear hb9 HR1 HR2 HR3))
  all_goals
    first
    | (refine cut43 HX.out.1 ?_
       intro W hW hK
       have hbW : Below w.heap.size w W := (HA.out _ H9.out).2.2.trans (hK.below (HA.out _ H9.out).2.2.size (fun k hk e => by have h1 := HX.out.2.2; have h2 := H4.out.2.2.1.size; omega))
       clear hK)
    | (refine cutG (fun W => W.heap[w9.heap.size]? = some (.cells #[.int .i64 2, .int .i64 5, .slice none 0 0, .slice none 0 0, .slice al q cl] 43 (0, 0)) ∧ Below w.heap.size w W) ⟨hp_new w9 _, below_on (HA.out _ H9.out).2.2 (below1 w9 _)⟩ ?_
       rintro W ⟨hW, hbW⟩)
    obtain ⟨r0, r1, r2, r3, r4, r5⟩ := cells5f hW
    have HW := hid (And.intro hbW hW)
    clear hbW hW
    go_wp2_with (first
      | (go_at_call 17
         refine (HKn.out _).mono ?_
         rintro e wz ⟨rfl, hbz⟩
         have HZ := hid hbz
         clear hbz))
    go_ret
    exact ⟨rfl, below_on HW.out.1 HZ.out⟩

end Go.Proofs.YthcoigbkdbkojaaGreat
