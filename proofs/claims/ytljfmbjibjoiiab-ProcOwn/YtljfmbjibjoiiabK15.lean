import Derived.Test.YtljfmbjibjoiiabK12
import Derived.Test.YtljfmbjibjoiiabK14
import Derived.Test.YtljfmbjibjoiiabK13
import Derived.Deep.Cut
import Derived.ProofKit
import Derived.OpenShut
import Derived.Deep.Slices
import Derived.Test.YtljfmbjibjoiiabK04
import Derived.Deep.Strs
import Derived.ArgAppend
namespace Go.Proofs.Ytljfmbjibjoiiab
open Go.RowKit Go.Lib

theorem tkFs_err (bs : List Int) : ∀ (fs : List Fk) (x : Ins) (a : Nat) (E : Int), tkFs bs fs x a = .error E → E ≠ 0 := by
  intro fs
  induction fs with
  | nil => intro x a E h; rw [tkFs] at h; cases h
  | cons f fs ih =>
    intro x a E h
    rw [tkFs] at h
    by_cases h0 : (tkf f bs a).2.2 = 0
    · rw [if_pos h0] at h; exact ih _ _ _ h
    · rw [if_neg h0] at h; injection h with h; rw [← h]; exact h0

theorem tkVal_err (bs : List Int) (most : Int) (a : Nat) (E : Int) (h : tkVal bs most a = .error E) : E ≠ 0 := by
  unfold tkVal at h
  split at h
  · split at h
    · cases h
    · rename_i h0; injection h with h; rw [← h]; exact h0
  · rename_i h0; injection h with h; rw [← h]; exact h0

theorem tkIns_err (bs : List Int) (most : Int) (a : Nat) (E : Int) (h : tkIns bs most a = .error E) : E ≠ 0 := by
  unfold tkIns at h
  split at h
  · split at h
    · cases hT : tkFs bs (opF (opN (takeZ 0 1 bs a 0).1.1)) (zIns (takeZ 0 1 bs a 0).1.1) (takeZ 0 1 bs a 0).2.1 with
      | error E2 =>
        rw [hT] at h
        have h : E2 = E := by simpa [tkAfter] using h
        rw [← h]
        exact tkFs_err bs _ _ _ _ hT
      | ok r =>
        obtain ⟨x, a2⟩ := r
        rw [hT] at h
        unfold tkAfter at h
        dsimp only at h
        split at h
        · cases hV : tkVal bs most a2 with
          | error E2 =>
            rw [hV] at h
            have h : E2 = E := by simpa using h
            rw [← h]
            exact tkVal_err bs most a2 E2 hV
          | ok r => rw [hV] at h; cases h
        · cases h
    · injection h with h; rw [← h]; decide
  · rename_i h0; injection h with h; rw [← h]; exact h0

theorem tkCode_err (bs : List Int) (most : Int) : ∀ (n a : Nat) (E : Int), tkCode bs most n a = .error E → E ≠ 0 := by
  intro n
  induction n with
  | zero => intro a E h; rw [tkCode] at h; cases h
  | succ n ih =>
    intro a E h
    rw [tkCode] at h
    cases hI : tkIns bs most a with
    | error E2 =>
      rw [hI] at h
      have h : E2 = E := by simpa using h
      rw [← h]
      exact tkIns_err bs most a E2 hI
    | ok r =>
      obtain ⟨x, a2⟩ := r
      rw [hI] at h
      dsimp only at h
      cases hC : tkCode bs most n a2 with
      | error E2 =>
        rw [hC] at h
        have h : E2 = E := by simpa using h
        rw [← h]
        exact ih a2 E2 hC
      | ok r => rw [hC] at h; cases h

theorem tkProc_err (bs : List Int) (E : Int) (h : tkProc bs = .error E) : E ≠ 0 := by
  unfold tkProc at h
  split at h
  · split at h
    · unfold tkEnd at h
      split at h
      · rename_i E2 hC
        have h : E2 = E := by simpa using h
        rw [← h]
        exact tkCode_err _ _ _ _ _ hC
      · split at h
        · cases h
        · rename_i h0; injection h with h; rw [← h]; exact h0
    · injection h with h; rw [← h]; decide
  · rename_i h0; injection h with h; rw [← h]; exact h0

theorem decP_err (bs : List Int) (E : Int) (h : decP bs = .error E) : E ≠ 0 := by
  unfold decP at h
  cases hT : tkProc bs with
  | error E2 =>
    rw [hT] at h
    have h : E2 = E := by simpa using h
    rw [← h]
    exact tkProc_err bs E2 hT
  | ok r =>
    obtain ⟨nm, ar, xs⟩ := r
    rw [hT] at h
    dsimp only at h
    split at h
    · cases h
    · rename_i h0; injection h with h; rw [← h]; exact h0

theorem decP_ok (bs : List Int) (nm : List Int) (ar : Int) (xs : List Ins) (h : decP bs = .ok (nm, ar, xs)) : tkProc bs = .ok (nm, ar, xs) ∧ (procChk (mkStr nm) ar xs).2 = 0 := by
  unfold decP at h
  cases hT : tkProc bs with
  | error E2 => rw [hT] at h; cases h
  | ok r =>
    obtain ⟨nm', ar', xs'⟩ := r
    rw [hT] at h
    dsimp only at h
    split at h
    · rename_i h0
      injection h with h
      injection h with h1 h
      injection h with h2 h3
      subst h1 h2 h3
      exact ⟨rfl, h0⟩
    · cases h

/-- Another procedure's beginning is none. -/
theorem decP_cut (bs : List Int) (ho : Oct bs) (nm : List Int) (ar : Int) (xs : List Ins) (h : decP bs = .ok (nm, ar, xs)) (c : Nat) (hc : c < bs.length) : ∃ E, decP (bs.take c) = .error E ∧ E ≠ 0 := by
  cases hD : decP (bs.take c) with
  | error E => exact ⟨E, rfl, decP_err _ _ hD⟩
  | ok r =>
    obtain ⟨nm', ar', xs'⟩ := r
    exfalso
    have h1 := (decP_ok _ _ _ _ hD).1
    have h2 := tkProc_more (bs.take c) (bs.drop c) (ho.take c) (by intro e; have := congrArg List.length e; simp at this; omega) _ _ _ h1
    rw [List.take_append_drop, (decP_ok _ _ _ _ h).1] at h2
    cases h2

theorem decP_more (bs m : List Int) (ho : Oct bs) (hm : m ≠ []) (nm : List Int) (ar : Int) (xs : List Ins) (h : decP bs = .ok (nm, ar, xs)) : decP (bs ++ m) = .error 3 := by
  unfold decP
  rw [tkProc_more bs m ho hm nm ar xs (decP_ok _ _ _ _ h).1]

theorem decP_pos (bs : List Int) (nm : List Int) (ar : Int) (xs : List Ins) (h : decP bs = .ok (nm, ar, xs)) : 0 < bs.length := by
  cases bs with
  | nil =>
    have h1 := (decP_ok _ _ _ _ h).1
    have e : tkProc [] = .error 2 := by rfl
    rw [e] at h1
    cases h1
  | cons b bs => simp

/-- Where the law is behind Decode. -/
structure Fst (w W : World) (r : Nat) (nm : ByteArray) (ar : Int) (xs : List Ins) (cb : Nat) : Prop where
  r0 : W.heap[r]? = some (po nm ar (.slice (some ⟨cb, 0, none⟩) xs.length xs.length))
  bk : ∃ cs, W.heap[cb]? = some (.cells cs 42 (0, 0))
  co : ∀ (j : Nat) (x : Ins), xs[j]? = some x → InsAt W cb (j * 8) x
  hb : Below w.heap.size w W

theorem Fst.below {w W W' : World} {r : Nat} {nm : ByteArray} {ar : Int} {xs : List Ins} {cb : Nat} (h : Fst w W r nm ar xs cb) (hb : Below W.heap.size W W') : Fst w W' r nm ar xs cb := by
  obtain ⟨cs, hc⟩ := h.bk
  have hl := hb.block _ (lt_of hc)
  exact ⟨blk_of hb h.r0 (lt_of h.r0), ⟨cs, hl.trans hc⟩, fun j x hx => (h.co j x hx).same hl, below_on h.hb hb⟩

theorem Fst.code {w W : World} {r : Nat} {nm : ByteArray} {ar : Int} {xs : List Ins} {cb : Nat} (h : Fst w W r nm ar xs cb) : CodeAt W (.slice (some ⟨cb, 0, none⟩) xs.length xs.length) xs :=
  ⟨_, _, rfl, Nat.le_refl _, fun _ => ⟨cb, 0, rfl, fun j x hx => by rw [Nat.zero_add]; exact h.co j x hx⟩⟩

theorem fst_start {w w1 : World} {nm : ByteArray} {ar : Int} {xs : List Ins} {cb : Nat} (hb : Below w.heap.size w w1) (bk : ∃ cs, w1.heap[cb]? = some (.cells cs 42 (0, 0))) (co : ∀ (j : Nat) (x : Ins), xs[j]? = some x → InsAt w1 cb (j * 8) x) :
    Fst w (w1.alloc (po nm ar (.slice (some ⟨cb, 0, none⟩) xs.length xs.length))) w1.heap.size nm ar xs cb := by
  obtain ⟨cs, hc⟩ := bk
  have hl : ((w1.alloc (po nm ar (.slice (some ⟨cb, 0, none⟩) xs.length xs.length))).heap[cb]?) = w1.heap[cb]? := Below.heap_alloc _ _ _ (lt_of hc)
  exact ⟨heap_alloc_new w1 _, ⟨cs, hl.trans hc⟩, fun j x hx => (co j x hx).same hl, hb.alloc hb.size _⟩

theorem app_one {w w5 w7 : World} {ao : Option Addr} {c : Nat} {bs : List Int} {v : Value} (h5 : Below w.heap.size w w5) (ho : w7.ownsRow w5.heap.size 5 1 (.slice ao (0 + bs.length) c) (0 + bs.length) (B8 ([] ++ bs))) (hg : (w5.alloc (.cells #[] 5)).grownBy w7 v.ownBlock) (hv : ∀ k, v.ownBlock = some k → w5.heap.size ≤ k) :
    w7.ownsRow w5.heap.size 5 1 (.slice ao bs.length c) bs.length (B8 bs) ∧ Below w.heap.size w w7 ∧ w5.heap.size ≤ w7.heap.size := by
  have hb : Below w5.heap.size w5 w7 := (below1 w5 _).trans ((Below.refl _ _).grown hg (by simp) hv)
  exact ⟨by simpa using ho, below_on h5 hb, hb.size⟩

theorem app_two {w w5 w7 w8 : World} {ao ao2 : Option Addr} {c c2 : Nat} {bs ms : List Int} (h7 : w7.ownsRow w5.heap.size 5 1 (.slice ao bs.length c) bs.length (B8 bs)) (h7b : Below w.heap.size w w7) (hz : w5.heap.size ≤ w7.heap.size) (h5 : w.heap.size ≤ w5.heap.size)
    (ho : w8.ownsRow w5.heap.size 5 1 (.slice ao2 (bs.length + ms.length) c2) (bs.length + ms.length) (B8 (bs ++ ms))) (hg : w7.grownBy w8 (Value.slice ao bs.length c).ownBlock) :
    w8.ownsRow w5.heap.size 5 1 (.slice ao2 (bs.length + ms.length) c2) (bs.length + ms.length) (B8 (bs ++ ms)) ∧ Below w.heap.size w w8 := by
  have _ := hz
  exact ⟨ho, h7b.grown hg h7b.size (fun k hk => by have := (h7.lt k hk).1; omega)⟩

end Go.Proofs.Ytljfmbjibjoiiab

namespace Go.Proofs.Ytljfmbjibjoiiab
open Go.RowKit Go.Lib

theorem fldV_oct (f : Fk) (v : Int) (h0 : 0 ≤ v) (h1 : v < 256) : Oct (fldV f v) := by
  have hr : Oct (rowF 10 v) := oct_row 10 v h0 (by omega)
  have hb : Oct [v] := fun y hy => by simp at hy; omega
  cases f
  · exact hb
  · exact hb
  · exact hb
  · exact hr
  · exact hr
  · exact hr
  · exact hr

theorem oct_app {a b : List Int} (h1 : Oct a) (h2 : Oct b) : Oct (a ++ b) := fun y hy => (List.mem_append.1 hy).elim (h1 y) (h2 y)

theorem insBx_oct (x : Ins) (hop : 1 ≤ x.op ∧ x.op ≤ 16) (hf : ∀ f ∈ opF (opN x.op), 0 ≤ f.get x ∧ f.get x < 256) (hc : chk x.k x.i x.t = 0) (hi : InsOk x) : Oct (insBx x) := by
  rw [insBx_eq]
  refine oct_app (fun y hy => by simp at hy; omega) (oct_app ?_ ?_)
  · intro y hy
    obtain ⟨f, hf1, hf2⟩ := List.mem_flatMap.1 hy
    exact fldV_oct f _ (hf f hf1).1 (hf f hf1).2 y hf2
  · split
    · have hl := encB_len x.k x.i x.t hc hi.1 hi.2
      exact oct_app (oct_row 10 _ (by omega) (by have := hl.1; omega)) hl.2
    · exact fun y hy => by simp at hy

theorem procB_oct (nm : ByteArray) (ar : Int) (xs : List Ins) (hE : (procChk nm ar xs).2 = 0) (hi : ∀ x ∈ xs, InsOk x) : Oct (procB nm ar xs) := by
  have g := good_of hE
  have h1 := g.a0
  have h2 := g.a1
  have h3 := g.len
  have h4 := g.size
  have h5 := strBs_len nm
  unfold procB
  refine oct_app (oct_app (oct_app (oct_app (oct_row 10 _ (by omega) (by omega)) (oct_str nm)) (oct_row 10 _ h1 (by omega))) (oct_row 10 _ (by omega) (by omega))) ?_
  intro y hy
  obtain ⟨x, hx1, hx2⟩ := List.mem_flatMap.1 hy
  obtain ⟨j, hj⟩ := List.getElem?_of_mem hx1
  obtain ⟨q1, q2, q3⟩ := g.at hj
  exact insBx_oct x q1 q2 q3 (hi x hx1) y hx2

theorem procB_len (nm : ByteArray) (ar : Int) (xs : List Ins) (hE : (procChk nm ar xs).2 = 0) (hi : ∀ x ∈ xs, InsOk x) : (procB nm ar xs).length ≤ 100000000 := by
  have g := good_of hE
  have h4 := g.size
  have h5 := strBs_len nm
  have h3 := g.len
  have r1 := rowF_le 10 ((strBs nm).length : Nat)
  have r2 := rowF_le 10 ar
  have r3 := rowF_le 10 (xs.length : Int)
  have hc := code_len xs (fun x hx => by
    obtain ⟨j, hj⟩ := List.getElem?_of_mem hx
    exact insBx_len x (g.at hj).2.2 (hi x hx))
  have : 1002000 * xs.length ≤ 1002000 * 64 := Nat.mul_le_mul_left _ h3
  unfold procB
  simp only [List.length_append]
  omega

/-- The law's two first blocks: the procedure, the instruction. -/
structure Bst (w W : World) (nm : ByteArray) (ar : Int) (S : Value) (x : Ins) : Prop where
  r0 : W.heap[w.heap.size]? = some (po nm ar S)
  r1 : W.heap[w.heap.size + 1]? = some (io x.op x.a x.b x.c x.n x.k x.i x.t)
  hb : Below w.heap.size w W

theorem Bst.below {w W W' : World} {nm : ByteArray} {ar : Int} {S : Value} {x : Ins} (h : Bst w W nm ar S x) (hb : Below W.heap.size W W') : Bst w W' nm ar S x :=
  ⟨blk_of hb h.r0 (lt_of h.r0), blk_of hb h.r1 (lt_of h.r1), below_on h.hb hb⟩

theorem bst_start (w : World) (nm : ByteArray) (ar : Int) (S : Value) (x : Ins) : Bst w ((w.alloc (po nm ar S)).alloc (io x.op x.a x.b x.c x.n x.k x.i x.t)) nm ar S x := ⟨two1 w _ _, two2 w _ _, below2 w _ _⟩

theorem dst_code {W : World} {cb : Nat} {xs : List Ins} (hc : ∀ (j : Nat) (x : Ins), xs[j]? = some x → InsAt W cb (j * 8) x) : CodeAt W (.slice (some ⟨cb, 0, none⟩) xs.length xs.length) xs :=
  ⟨_, _, rfl, Nat.le_refl _, fun _ => ⟨cb, 0, rfl, fun j x hx => by rw [Nat.zero_add]; exact hc j x hx⟩⟩

/-- An instruction stored. -/
def put8 (W : World) (g o : Nat) (x : Ins) : World := ((((((((W.setCell ⟨g, o, none⟩ (.int .i64 x.op)).setCell ⟨g, o + 1, none⟩ (.int .i64 x.a)).setCell ⟨g, o + 2, none⟩ (.int .i64 x.b)).setCell ⟨g, o + 3, none⟩ (.int .i64 x.c)).setCell ⟨g, o + 4, none⟩ (.int .i64 x.n)).setCell ⟨g, o + 5, none⟩ (.int .i64 x.k)).setCell ⟨g, o + 6, none⟩ (.int .i64 x.i)).setCell ⟨g, o + 7, none⟩ (.string x.t))

theorem put8_block (W : World) (g o : Nat) (x : Ins) (k : Nat) (hk : k ≠ g) : (put8 W g o x).heap[k]? = W.heap[k]? := by
  unfold put8
  repeat rw [Below.heap_setCell _ _ _ _ hk]

theorem put8_kept (W : World) (g o : Nat) (x : Ins) : Kept (fun k => k = g) W (put8 W g o x) := by
  unfold put8
  exact ((((((((Kept.refl (fun k => k = g) W).setCell (p := ⟨g, o, none⟩) (fun _ => rfl) _).setCell (p := ⟨g, o + 1, none⟩) (fun _ => rfl) _).setCell (p := ⟨g, o + 2, none⟩) (fun _ => rfl) _).setCell (p := ⟨g, o + 3, none⟩) (fun _ => rfl) _).setCell (p := ⟨g, o + 4, none⟩) (fun _ => rfl) _).setCell (p := ⟨g, o + 5, none⟩) (fun _ => rfl) _).setCell (p := ⟨g, o + 6, none⟩) (fun _ => rfl) _).setCell (p := ⟨g, o + 7, none⟩) (fun _ => rfl) _

theorem put8_out (W : World) (g o : Nat) (x : Ins) (q : Nat) (hq : q < o ∨ o + 8 ≤ q) : (put8 W g o x).cell? ⟨g, q, none⟩ = W.cell? ⟨g, q, none⟩ := by
  unfold put8
  rw [cs_other (adr_ne (by omega)), cs_other (adr_ne (by omega)), cs_other (adr_ne (by omega)), cs_other (adr_ne (by omega)), cs_other (adr_ne (by omega)), cs_other (adr_ne (by omega)), cs_other (adr_ne (by omega)), cs_other (adr_ne (by omega))]

theorem put8_in (W : World) (g o : Nat) (x y : Ins) (h : InsAt W g o y) : InsAt (put8 W g o x) g o x := by
  have h1 := h.setOp x.op
  have h2 := h1.set .a x.a
  have h3 := h2.set .b x.b
  have h4 := h3.set .c x.c
  have h5 := h4.set .arg x.n
  exact h5.setV x.k x.i x.t

theorem put8_code {W : World} {g cap cN : Nat} {xs : List Ins} {x : Ins} (hcap : xs.length ≤ cap) (hc : ∀ (j : Nat) (y : Ins), xs[j]? = some y → InsAt W g (j * 8) y) (hlt : cN < xs.length) :
    CodeAt (put8 W g (cN * 8) x) (.slice (some ⟨g, 0, none⟩) xs.length cap) (xs.set cN x) := by
  refine ⟨_, _, by rw [List.length_set], by rw [List.length_set]; exact hcap, fun _ => ⟨g, 0, rfl, fun j y hy => ?_⟩⟩
  rw [Nat.zero_add]
  by_cases hj : j = cN
  · subst hj
    rw [List.getElem?_set_self hlt] at hy
    have hy := Option.some.inj hy
    subst hy
    exact put8_in W g (j * 8) x _ (hc j _ (List.getElem?_eq_getElem hlt))
  · rw [List.getElem?_set_ne (Ne.symm hj)] at hy
    exact (hc j y hy).moved (fun m hm => put8_out W g (cN * 8) x _ (by omega))

set_option maxRecDepth 100000 in
theorem ins_eql (x y : Ins) (w : World) : (binOp BinOp.eql 42 x.val y.val).run Try.prog w = .ok (.bool (decide (x = y))) w := by
  have h := ins_neq x y w
  rw [show x.val = .agg #[.int .i64 x.op, .int .i64 x.a, .int .i64 x.b, .int .i64 x.c, .int .i64 x.n, .int .i64 x.k, .int .i64 x.i, .string x.t] from rfl, show y.val = .agg #[.int .i64 y.op, .int .i64 y.a, .int .i64 y.b, .int .i64 y.c, .int .i64 y.n, .int .i64 y.k, .int .i64 y.i, .string y.t] from rfl] at h ⊢
  rw [run_neq_struct] at h
  rw [run_eql_struct]
  cases hr : (Op.equalIn 10000 42 (.agg #[.int .i64 x.op, .int .i64 x.a, .int .i64 x.b, .int .i64 x.c, .int .i64 x.n, .int .i64 x.k, .int .i64 x.i, .string x.t]) (.agg #[.int .i64 y.op, .int .i64 y.a, .int .i64 y.b, .int .i64 y.c, .int .i64 y.n, .int .i64 y.k, .int .i64 y.i, .string y.t])).run Try.prog w with
  | ok b w2 =>
    rw [hr] at h
    simp only [Result.andThen_ok] at h ⊢
    injection h with h1 h2
    injection h1 with h1
    rw [h2]
    congr 2
    cases b <;> cases hd : decide (x = y) <;> simp_all
  | _ => rw [hr] at h; simp [Result.andThen] at h

/-- The same bytes, just if it is the same instruction. -/
theorem set_same (nm : ByteArray) (ar : Int) (xs : List Ins) (x y : Ins) (cN : Nat) (hE : (procChk nm ar xs).2 = 0) (hi : ∀ x ∈ xs, InsOk x) (hx : InsOk x) (hy : xs[cN]? = some y) (hE2 : (procChk nm ar (xs.set cN x)).2 = 0) :
    decide (procB nm ar xs = procB nm ar (xs.set cN x)) = decide (x = y) := by
  have hi2 : ∀ z ∈ xs.set cN x, InsOk z := fun z hz => (List.mem_or_eq_of_mem_set hz).elim (hi z) (fun e => e ▸ hx)
  have hlt : cN < xs.length := (List.getElem?_eq_some_iff.1 hy).1
  by_cases hxy : x = y
  · subst hxy
    have e : xs.set cN x = xs := by
      apply List.ext_getElem?
      intro j
      by_cases hj : cN = j
      · subst hj; rw [List.getElem?_set_self hlt, hy]
      · rw [List.getElem?_set_ne hj]
    rw [e]
    simp
  · have hne : procB nm ar xs ≠ procB nm ar (xs.set cN x) := by
      intro e
      have d1 := dec_procB nm ar xs hE hi
      have d2 := dec_procB nm ar (xs.set cN x) hE2 hi2
      rw [e, d2] at d1
      injection d1 with d1
      injection d1 with _ d1
      injection d1 with _ d1
      have := congrArg (fun l => l[cN]?) d1
      simp only [List.getElem?_set_self hlt, hy] at this
      exact hxy (Option.some.inj this)
    rw [decide_eq_false hne, decide_eq_false hxy]

theorem tw_at {w W : World} {g g2 : Nat} {cur : Array Value} {xs zs : List Ins} {bs : List Int} (hg : w.heap.size ≤ g) (_hb : W.heap[g]? = some (.cells cur 42 (0, 0))) (hc : ∀ (j : Nat) (x : Ins), (xs ++ zs)[j]? = some x → InsAt W g (j * 8) x) (_hB : Below w.heap.size w W) (ho : Own w g2 bs) :
    (∀ (j : Nat) (x : Ins), xs[j]? = some x → InsAt W g (j * 8) x) ∧ g2 ≠ g := by
  refine ⟨fun j x hx => hc j x ?_, by have := lt_of ho; omega⟩
  rw [List.getElem?_append_left (List.getElem?_eq_some_iff.1 hx).1]
  exact hx

/-- Behind the store. -/
structure Bk2 (w W : World) (nm : ByteArray) (ar : Int) (S : Value) (x : Ins) (g2 : Nat) (bs : List Int) (S2 : Value) (ys : List Ins) (r : Nat) : Prop where
  st : Bst w W nm ar S x
  ow : Own W g2 bs
  co : CodeAt W S2 ys
  t : W.heap[r]? = some (po nm ar S2)

theorem bk_world {w w4 w5 : World} {nm : ByteArray} {ar : Int} {S : Value} {x : Ins} {g g2 c5 cN : Nat} {bs : List Int} {xs : List Ins} {cur : Array Value}
    (h : Bst w w5 nm ar S x ∧ Own w5 g2 bs ∧ ((∀ (j : Nat) (y : Ins), xs[j]? = some y → InsAt w5 g (j * 8) y) ∧ g2 ≠ g) ∧ xs.length + 9 ≤ c5 ∧ w5.heap[g]? = some (.cells cur 42 (0, 0)) ∧ w4.heap.size ≤ g ∧ w.heap.size + 1 < w4.heap.size) (hlt : cN < xs.length) :
    Bk2 w ((put8 w5 g (cN * 8) x).alloc (po nm ar (.slice (some ⟨g, 0, none⟩) xs.length c5))) nm ar S x g2 bs (.slice (some ⟨g, 0, none⟩) xs.length c5) (xs.set cN x) w5.heap.size := by
  obtain ⟨hs, ho, ⟨hc, hne⟩, hc5, hb, hg, hl⟩ := h
  have hz : (put8 w5 g (cN * 8) x).heap.size = w5.heap.size := by simp [put8, World.setCell]
  have k := put8_kept w5 g (cN * 8) x
  have b0 := (k.block _ (lt_of hs.r0) (by omega)).trans hs.r0
  have b1 := (k.block _ (lt_of hs.r1) (by omega)).trans hs.r1
  have b2 := (k.block _ (lt_of ho) hne).trans ho
  have hB : Below w.heap.size w (put8 w5 g (cN * 8) x) := hs.hb.trans (k.below hs.hb.size (fun q hq e => by omega))
  have hco := put8_code (W := w5) (x := x) (cap := c5) (by omega) hc hlt
  have hn := heap_alloc_new (put8 w5 g (cN * 8) x) (po nm ar (.slice (some ⟨g, 0, none⟩) xs.length c5))
  rw [hz] at hn
  have hbb := below1 (put8 w5 g (cN * 8) x) (po nm ar (.slice (some ⟨g, 0, none⟩) xs.length c5))
  exact ⟨⟨blk_of hbb b0 (lt_of b0), blk_of hbb b1 (lt_of b1), below_on hB hbb⟩, blk_of hbb b2 (lt_of b2), hco.below hbb, hn⟩

theorem below_drew {w0 w w1 : World} (h0 : Below w0.heap.size w0 w) (h : Below w.drew.heap.size w.drew w1) : Below w0.heap.size w0 w1 := by
  have h' : Below w.heap.size w w1 := ⟨h.os, h.tape, h.output, h.size, h.block⟩
  exact below_on h0 h'

end Go.Proofs.Ytljfmbjibjoiiab

namespace Go.Proofs.Ytljfmbjibjoiiab
open Go.RowKit

theorem Try.cells5 : Try.prog.cellsOf 5 = 1 := by kernel_rfl

/-- An argument of bytes. -/
theorem bytes_of_trod {H : Type} {enc : TypeId × Value → H} {W : World} {base : Nat} {held : Bool} {ao : Option Addr} {len cap : Nat} {d : DataW H} {p : List MemPlace}
    (h : DataW.Trod enc Try.prog W base (fun _ => true) held 30 (.slice ao len cap) d p) : ∃ bs, Sn W (.slice ao len cap) bs ∧ Oct bs ∧ bs.length ≤ 9223372036854775807 := by
  obtain ⟨fuel, hf⟩ := h
  rcases Go.Deep.open_slice Try.underlying30 hf with ⟨hcs, _⟩ | ⟨a, len', cap', m, n, D, Pl, hcs, _, hl, hm, hmm, _, hx⟩
  · simp [Value.cells] at hcs
    obtain ⟨rfl, rfl, rfl⟩ := hcs
    exact ⟨[], sn_nil _, (fun x hx => nomatch hx), by simp⟩
  · simp [Value.cells] at hcs
    obtain ⟨rfl, rfl, rfl⟩ := hcs
    simp only [if_true] at hmm
    obtain rfl : cap = m := hmm.symm
    rw [Try.cells5] at hx
    have key : ∀ i, i < len → ∃ y : Int, (0 ≤ y ∧ y < 256) ∧ W.cell? ((a.add (i * 1)).add 0) = some (.int .u8 y) := by
      intro i hi
      obtain ⟨cs, h1, h2⟩ := hx i (by omega)
      obtain ⟨y, e0, _, w0⟩ := DataW.trod_int Try.underlying5 h2
      subst e0
      have b0 := bounds_u8 w0
      exact ⟨y, ⟨b0.1, by omega⟩, (World.cells?_some h1).2.2 0 (by omega)⟩
    obtain ⟨F, hF⟩ := Go.Deep.choose_lt key
    unfold maxLen at hm
    refine ⟨(List.range len).map F, ⟨⟨some a, cap, by simp, by simpa using hl, ?_⟩, .inr ⟨_, _, _, rfl⟩⟩, ?_, by simp; omega⟩
    · intro hne
      have hlen : 0 < len := by
        rcases Nat.eq_zero_or_pos len with h | h
        · subst h; simp at hne
        · exact h
      have h00 := (hF 0 hlen).2
      obtain ⟨b, off, rfl⟩ : ∃ b off, a = ⟨b, off, none⟩ := by
        obtain ⟨b, off, spot⟩ := a
        have hspot : spot = none := by simpa [Addr.add] using World.cell?_spot h00
        subst hspot
        exact ⟨b, off, rfl⟩
      refine ⟨b, off, rfl, ?_⟩
      intro j x hj
      rw [List.getElem?_map, Option.map_eq_some_iff] at hj
      obtain ⟨i, hi, rfl⟩ := hj
      have hij : i = j ∧ j < len := by
        rw [List.getElem?_eq_some_iff] at hi
        obtain ⟨q1, q2⟩ := hi
        simp at q1 q2
        exact ⟨q2.symm, q1⟩
      obtain ⟨rfl, hi2⟩ := hij
      have k := (hF i hi2).2
      rw [add_lit, add_lit] at k
      simpa using k
    · intro x hx2
      simp at hx2
      obtain ⟨i, hi, rfl⟩ := hx2
      exact (hF i hi).1

end Go.Proofs.Ytljfmbjibjoiiab

namespace Go.Proofs.Ytljfmbjibjoiiab
open Go.RowKit Go.WideShapes Go.ChangeAt Go.ChangeShapes

theorem Try.cells40 : Try.prog.cellsOf 40 = 3 := by kernel_rfl
theorem Try.cells42 : Try.prog.cellsOf 42 = 8 := by kernel_rfl
theorem Try.cells24 : Try.prog.cellsOf 24 = 3 := by kernel_rfl
theorem Try.cells22 : Try.prog.cellsOf 22 = 1 := by kernel_rfl
theorem Try.cells3 : Try.prog.cellsOf 3 = 1 := by kernel_rfl
theorem Try.cells2 : Try.prog.cellsOf 2 = 1 := by kernel_rfl
theorem Try.cells9 : Try.prog.cellsOf 9 = 1 := by kernel_rfl

set_option maxRecDepth 100000 in
theorem vl_of_trod {H : Type} {enc : TypeId × Value → H} {W : World} {base : Nat} {spare : Nat → Bool} {held : Bool} {fuel : Nat} {cs : List Value} {x : DataW H × List MemPlace}
    (h : DataW.trod enc Try.prog W base spare held fuel 40 cs = some x) : ∃ k i s, cs = [.int .i64 k, .int .i64 i, .string s] ∧ (-9223372036854775808 ≤ i ∧ i ≤ 9223372036854775807) ∧ s.size ≤ maxLen := by
  obtain ⟨xs, n, _, rfl, hl, hlen, hf⟩ := DataW.trod_struct Try.underlying40 h
  rw [Try.cells40] at hl
  match cs, hl, xs, hlen with
  | [c0, c1, c2], _, [y0, y1, y2], _ =>
    have f0 : DataW.trod enc Try.prog W base spare held n 3 (([c0, c1, c2].drop 0).take (Try.prog.cellsOf 3)) = some y0 := hf 0 _ rfl
    have f1 : DataW.trod enc Try.prog W base spare held n 2 (([c0, c1, c2].drop 1).take (Try.prog.cellsOf 2)) = some y1 := hf 1 _ rfl
    have f2 : DataW.trod enc Try.prog W base spare held n 9 (([c0, c1, c2].drop 2).take (Try.prog.cellsOf 9)) = some y2 := hf 2 _ rfl
    rw [Try.cells3] at f0
    rw [Try.cells2] at f1
    rw [Try.cells9] at f2
    obtain ⟨a0, e0, _, w0⟩ := DataW.trod_int Try.underlying3 (x := y0) (by simpa using f0)
    obtain ⟨a1, e1, _, w1⟩ := DataW.trod_int Try.underlying2 (x := y1) (by simpa using f1)
    obtain ⟨s, e2, _, w2⟩ := DataW.trod_string Try.underlying9 (x := y2) (by simpa using f2)
    simp at e0 e1 e2
    subst e0 e1 e2
    have b1 := bounds_i64 w1
    exact ⟨a0, a1, s, rfl, ⟨b1.1, by omega⟩, w2⟩

set_option maxRecDepth 100000 in
theorem ins_of_trod {H : Type} {enc : TypeId × Value → H} {W : World} {base : Nat} {spare : Nat → Bool} {held : Bool} {fuel : Nat} {cs : List Value} {x : DataW H × List MemPlace}
    (h : DataW.trod enc Try.prog W base spare held fuel 42 cs = some x) : ∃ y : Ins, InsOk y ∧ cs = y.cells := by
  obtain ⟨xs, n, _, rfl, hl, hlen, hf⟩ := DataW.trod_struct Try.underlying42 h
  rw [Try.cells42] at hl
  match cs, hl, xs, hlen with
  | [c0, c1, c2, c3, c4, c5, c6, c7], _, [y0, y1, y2, y3, y4, y5], _ =>
    have f0 : DataW.trod enc Try.prog W base spare held n 3 (([c0, c1, c2, c3, c4, c5, c6, c7].drop 0).take (Try.prog.cellsOf 3)) = some y0 := hf 0 _ rfl
    have f1 : DataW.trod enc Try.prog W base spare held n 3 (([c0, c1, c2, c3, c4, c5, c6, c7].drop 1).take (Try.prog.cellsOf 3)) = some y1 := hf 1 _ rfl
    have f2 : DataW.trod enc Try.prog W base spare held n 3 (([c0, c1, c2, c3, c4, c5, c6, c7].drop 2).take (Try.prog.cellsOf 3)) = some y2 := hf 2 _ rfl
    have f3 : DataW.trod enc Try.prog W base spare held n 3 (([c0, c1, c2, c3, c4, c5, c6, c7].drop 3).take (Try.prog.cellsOf 3)) = some y3 := hf 3 _ rfl
    have f4 : DataW.trod enc Try.prog W base spare held n 3 (([c0, c1, c2, c3, c4, c5, c6, c7].drop 4).take (Try.prog.cellsOf 3)) = some y4 := hf 4 _ rfl
    have f5 : DataW.trod enc Try.prog W base spare held n 40 (([c0, c1, c2, c3, c4, c5, c6, c7].drop 5).take (Try.prog.cellsOf 40)) = some y5 := hf 5 _ rfl
    rw [Try.cells3] at f0 f1 f2 f3 f4
    rw [Try.cells40] at f5
    obtain ⟨a0, e0, _, _⟩ := DataW.trod_int Try.underlying3 (x := y0) (by simpa using f0)
    obtain ⟨a1, e1, _, _⟩ := DataW.trod_int Try.underlying3 (x := y1) (by simpa using f1)
    obtain ⟨a2, e2, _, _⟩ := DataW.trod_int Try.underlying3 (x := y2) (by simpa using f2)
    obtain ⟨a3, e3, _, _⟩ := DataW.trod_int Try.underlying3 (x := y3) (by simpa using f3)
    obtain ⟨a4, e4, _, _⟩ := DataW.trod_int Try.underlying3 (x := y4) (by simpa using f4)
    obtain ⟨k, i, s, e5, hi, _⟩ := vl_of_trod f5
    simp at e0 e1 e2 e3 e4 e5
    obtain ⟨e5, e6, e7⟩ := e5
    subst e0 e1 e2 e3 e4 e5 e6 e7
    exact ⟨⟨a0, a1, a2, a3, a4, k, i, s⟩, ⟨hi.1, by have := hi.2; show i < 9223372036854775808; omega⟩, rfl⟩

instance : Inhabited Ins := ⟨stopI⟩

set_option maxRecDepth 100000 in
/-- A procedure as an argument. -/
theorem proc_of_trod {H : Type} {enc : TypeId × Value → H} {W : World} {base b2 : Nat} {held : Bool} {v : Value} {d : DataW H} {p : List MemPlace} (hv : Value.okWide Try.prog W .any b2 24 v)
    (h : DataW.Trod enc Try.prog W base (fun _ => true) held 24 v d p) : ∃ (nm : ByteArray) (ar : Int) (S : Value) (xs : List Ins), v = .agg #[.string nm, .int .i64 ar, S] ∧ Rf W 8 S xs.length (xs.flatMap Ins.cells) ∧ (∀ x ∈ xs, InsOk x) := by
  obtain ⟨⟨cs⟩, rfl, _⟩ := okWide_struct Try.underlying24 hv
  obtain ⟨fuel, hf0⟩ := h
  have hf0 : DataW.trod enc Try.prog W base (fun _ => true) held fuel 24 cs = some (d, p) := by simpa [Value.cells] using hf0
  obtain ⟨xs, n, _, hd, hl, hlen, hf⟩ := DataW.trod_struct Try.underlying24 hf0
  rw [Try.cells24] at hl
  match cs, hl, xs, hlen with
  | [c0, c1, c2], _, [y0, y1, y2], _ =>
    have f0 : DataW.trod enc Try.prog W base (fun _ => true) held n 9 (([c0, c1, c2].drop 0).take (Try.prog.cellsOf 9)) = some y0 := hf 0 _ rfl
    have f1 : DataW.trod enc Try.prog W base (fun _ => true) held n 3 (([c0, c1, c2].drop 1).take (Try.prog.cellsOf 3)) = some y1 := hf 1 _ rfl
    have f2 : DataW.trod enc Try.prog W base (fun _ => true) held n 22 (([c0, c1, c2].drop 2).take (Try.prog.cellsOf 22)) = some y2 := hf 2 _ rfl
    rw [Try.cells9] at f0
    rw [Try.cells3] at f1
    rw [Try.cells22] at f2
    obtain ⟨s, e0, _, _⟩ := DataW.trod_string Try.underlying9 (x := y0) (by simpa using f0)
    obtain ⟨a1, e1, _, _⟩ := DataW.trod_int Try.underlying3 (x := y1) (by simpa using f1)
    obtain ⟨S, ys, e2, hR, hO⟩ := rf_of_trod Ins.cells InsOk 8 ins_cells ins_one Try.underlying22 Try.cells42 (fun _ _ _ h => ins_of_trod h) f2
    simp at e0 e1 e2
    subst e0 e1 e2
    exact ⟨s, a1, _, ys, rfl, hR, hO⟩

set_option maxRecDepth 100000 in
/-- An instruction as an argument. -/
theorem instr_of_trod {H : Type} {enc : TypeId × Value → H} {W : World} {base b2 : Nat} {held : Bool} {v : Value} {d : DataW H} {p : List MemPlace} (hv : Value.okWide Try.prog W .any b2 42 v)
    (h : DataW.Trod enc Try.prog W base (fun _ => true) held 42 v d p) : ∃ x : Ins, v = x.val ∧ InsOk x := by
  obtain ⟨⟨cs⟩, rfl, _⟩ := okWide_struct Try.underlying42 hv
  obtain ⟨fuel, hf⟩ := h
  obtain ⟨x, h1, h2⟩ := ins_of_trod hf
  refine ⟨x, ?_, h1⟩
  have h4 : cs = x.cells := by simpa [Value.cells] using h2
  rw [h4]
  rfl

end Go.Proofs.Ytljfmbjibjoiiab

namespace Go.Proofs.Ytljfmbjibjoiiab
open Go.RowKit Go.Lib

/-- A list of instructions that lies in one block of its own. -/
def Ck (W : World) (b : Nat) (xs : List Ins) : Prop := (∃ cs, W.heap[b]? = some (.cells cs 42 (0, 0))) ∧ ∀ (j : Nat) (x : Ins), xs[j]? = some x → InsAt W b (j * 8) x

theorem Ck.same {W W' : World} {b : Nat} {xs : List Ins} (h : Ck W b xs) (hs : W'.heap[b]? = W.heap[b]?) : Ck W' b xs := by
  obtain ⟨⟨cs, hc⟩, h2⟩ := h
  exact ⟨⟨cs, hs.trans hc⟩, fun j x hx => (h2 j x hx).same hs⟩

theorem Ck.lt {W : World} {b : Nat} {xs : List Ins} (h : Ck W b xs) : b < W.heap.size := by
  obtain ⟨⟨cs, hc⟩, _⟩ := h
  exact lt_of hc

theorem Ck.code {W : World} {b : Nat} {xs : List Ins} (h : Ck W b xs) : CodeAt W (.slice (some ⟨b, 0, none⟩) xs.length xs.length) xs :=
  ⟨_, _, rfl, Nat.le_refl _, fun _ => ⟨b, 0, rfl, fun j x hx => by rw [Nat.zero_add]; exact h.2 j x hx⟩⟩

def upd {α : Type} (f : Nat → α) (i : Nat) (v : α) : Nat → α := fun j => if j = i then v else f j

theorem upd_self {α : Type} (f : Nat → α) (i : Nat) (v : α) : upd f i v i = v := by simp [upd]
theorem upd_ne {α : Type} (f : Nat → α) {i j : Nat} (v : α) (h : j ≠ i) : upd f i v j = f j := by simp [upd, h]

/-- An array of three. -/
abbrev a3 (f : Nat → Value) (t : TypeId) : Obj := .cells #[f 0, f 1, f 2] t

theorem a3_cell {W : World} {r : Nat} {f : Nat → Value} {t : TypeId} (h : W.heap[r]? = some (a3 f t)) {i : Nat} (hi : i < 3) : W.cell? ⟨r, i, none⟩ = some (f i) := by
  rw [cell_of_row W _ _ _ _ _ h]
  have : i = 0 ∨ i = 1 ∨ i = 2 := by omega
  rcases this with rfl | rfl | rfl <;> rfl

theorem a3_free {W : World} {r : Nat} {f : Nat → Value} {t : TypeId} (h : W.heap[r]? = some (a3 f t)) (o : Nat) : W.frozen? ⟨r, o, none⟩ = false := by simp [World.frozen?, h]

theorem a3_set {W : World} {r : Nat} {f : Nat → Value} {t : TypeId} (h : W.heap[r]? = some (a3 f t)) {i : Nat} (hi : i < 3) (v : Value) : (W.setCell ⟨r, i, none⟩ v).heap[r]? = some (a3 (upd f i v) t) ∧ Kept (fun k => k = r) W (W.setCell ⟨r, i, none⟩ v) := by
  refine ⟨?_, (Kept.refl (fun k => k = r) W).setCell (p := ⟨r, i, none⟩) (fun _ => rfl) _⟩
  have : i = 0 ∨ i = 1 ∨ i = 2 := by omega
  rcases this with rfl | rfl | rfl <;> simp [World.setCell, Array.getElem?_modify, h, upd]

/-- Three rows and three lists that are kept, n of each there. -/
structure Sb (w1 W : World) (ra rc : Nat) (g c : Nat → Nat) (f h : Nat → Value) (R : Nat → List Int) (X : Nat → List Ins) (n : Nat) : Prop where
  hb : Below w1.heap.size w1 W
  ha : W.heap[ra]? = some (a3 f 33)
  hc : W.heap[rc]? = some (a3 h 34)
  lr : w1.heap.size ≤ ra ∧ ra < rc
  fv : ∀ i, i < n → f i = .slice (some ⟨g i, 0, none⟩) (R i).length (R i).length
  hv : ∀ i, i < n → h i = .slice (some ⟨c i, 0, none⟩) (X i).length (X i).length
  ro : ∀ i, i < n → Own W (g i) (R i)
  co : ∀ i, i < n → Ck W (c i) (X i)
  gl : ∀ i, i < n → rc < g i ∧ rc < c i
  gi : ∀ i j, i < j → j < n → g i ≠ g j ∧ c i ≠ c j

theorem own_ty {W : World} {g b : Nat} {bs : List Int} {cs : Array Value} {t : TypeId} (h : Own W g bs) (hc : W.heap[b]? = some (.cells cs t (0, 0))) (ht : t ≠ 5) : b ≠ g := by
  rintro rfl
  unfold Own at h
  rw [hc] at h
  simp at h
  exact ht h.2

theorem Sb.below {w1 W W' : World} {ra rc : Nat} {g c : Nat → Nat} {f h : Nat → Value} {R : Nat → List Int} {X : Nat → List Ins} {n : Nat} (s : Sb w1 W ra rc g c f h R X n) (hb : Below W.heap.size W W') : Sb w1 W' ra rc g c f h R X n :=
  ⟨below_on s.hb hb, blk_of hb s.ha (lt_of s.ha), blk_of hb s.hc (lt_of s.hc), s.lr, s.fv, s.hv, fun i hi => blk_of hb (s.ro i hi) (lt_of (s.ro i hi)), fun i hi => (s.co i hi).same (hb.block _ (s.co i hi).lt), s.gl, s.gi⟩

/-- One more of each is laid down. -/
theorem Sb.more {w1 W : World} {ra rc : Nat} {g c : Nat → Nat} {f h : Nat → Value} {R : Nat → List Int} {X : Nat → List Ins} {n : Nat} (s : Sb w1 W ra rc g c f h R X n) (hn : n < 3) {b d : Nat} {bs : List Int} {xs : List Ins} (ho : Own W b bs) (hk : Ck W d xs)
    (hb : rc < b ∧ rc < d) (hne : ∀ i, i < n → g i ≠ b ∧ c i ≠ d) :
    Sb w1 ((W.setCell ⟨ra, n, none⟩ (.slice (some ⟨b, 0, none⟩) bs.length bs.length)).setCell ⟨rc, n, none⟩ (.slice (some ⟨d, 0, none⟩) xs.length xs.length)) ra rc (upd g n b) (upd c n d) (upd f n (.slice (some ⟨b, 0, none⟩) bs.length bs.length)) (upd h n (.slice (some ⟨d, 0, none⟩) xs.length xs.length)) (upd R n bs) (upd X n xs) (n + 1) := by
  obtain ⟨e1, k1⟩ := a3_set s.ha hn (.slice (some ⟨b, 0, none⟩) bs.length bs.length)
  have hlr := s.lr
  have hc1 := (k1.block rc (lt_of s.hc) (by omega)).trans s.hc
  obtain ⟨e2, k2⟩ := a3_set hc1 hn (.slice (some ⟨d, 0, none⟩) xs.length xs.length)
  have e3 := (k2.block ra (lt_of e1) (by omega)).trans e1
  have kk : ∀ k, k < W.heap.size → rc < k → ((W.setCell ⟨ra, n, none⟩ (.slice (some ⟨b, 0, none⟩) bs.length bs.length)).setCell ⟨rc, n, none⟩ (.slice (some ⟨d, 0, none⟩) xs.length xs.length)).heap[k]? = W.heap[k]? := fun k hk hl => (k2.block k (Nat.lt_of_lt_of_le hk k1.size) (by omega)).trans (k1.block k hk (by omega))
  have hbel : Below w1.heap.size w1 (W.setCell ⟨ra, n, none⟩ (.slice (some ⟨b, 0, none⟩) bs.length bs.length)) := s.hb.trans (k1.below s.hb.size (fun k h1 h2 => by omega))
  refine ⟨hbel.trans (k2.below hbel.size (fun k h1 h2 => by omega)), e3, e2, s.lr, ?_, ?_, ?_, ?_, ?_, ?_⟩
  · intro i hi
    by_cases e : i = n
    · subst e; simp [upd]
    · simp only [upd, if_neg e]; exact s.fv i (by omega)
  · intro i hi
    by_cases e : i = n
    · subst e; simp [upd]
    · simp only [upd, if_neg e]; exact s.hv i (by omega)
  · intro i hi
    by_cases e : i = n
    · subst e; simp only [upd, if_pos]; exact (kk b (lt_of ho) hb.1).trans ho
    · simp only [upd, if_neg e]; exact (kk _ (lt_of (s.ro i (by omega))) (s.gl i (by omega)).1).trans (s.ro i (by omega))
  · intro i hi
    by_cases e : i = n
    · subst e; simp only [upd, if_pos]; exact hk.same (kk d hk.lt hb.2)
    · simp only [upd, if_neg e]; exact (s.co i (by omega)).same (kk _ (s.co i (by omega)).lt (s.gl i (by omega)).2)
  · intro i hi
    by_cases e : i = n
    · subst e; simp only [upd, if_pos]; exact hb
    · simp only [upd, if_neg e]; exact s.gl i (by omega)
  · intro i j hij hj
    by_cases e : j = n
    · subst e
      simp only [upd, if_pos, if_neg (show i ≠ j by omega)]
      exact hne i hij
    · simp only [upd, if_neg e, if_neg (show i ≠ n by omega)]
      exact s.gi i j hij (by omega)

end Go.Proofs.Ytljfmbjibjoiiab
