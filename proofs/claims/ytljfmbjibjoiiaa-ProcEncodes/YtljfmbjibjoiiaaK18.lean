import Derived.Test.YtljfmbjibjoiiaaK16
import Derived.Test.YtljfmbjibjoiiaaK17
import Derived.Test.YtljfmbjibjoiiaaK02
import Derived.Test.YtljfmbjibjoiiaaK04
namespace Go.Proofs.Ytljfmbjibjoiiaa
open Go.RowKit Go.Lib

theorem fldV_oct (f : Fk) (v : Int) (h0 : 0 ≤ v) (h1 : v < 256) : Oct (fldV f v) := by
  have hr : Oct (rowF 10 v) := oct_row 10 v h0 (by omega)
  have hb : Oct [v] := fun y hy => by simp at hy; omega
  cases f
  · exact hb
  · exact hb
  · exact hb
  · exact hr
  · exact hr
  · exact hr
  · exact hr

theorem oct_app {a b : List Int} (h1 : Oct a) (h2 : Oct b) : Oct (a ++ b) := fun y hy => (List.mem_append.1 hy).elim (h1 y) (h2 y)

theorem insBx_oct (x : Ins) (hop : 1 ≤ x.op ∧ x.op ≤ 16) (hf : ∀ f ∈ opF (opN x.op), 0 ≤ f.get x ∧ f.get x < 256) (hc : chk x.k x.i x.t = 0) (hi : InsOk x) : Oct (insBx x) := by
  rw [insBx_eq]
  refine oct_app (fun y hy => by simp at hy; omega) (oct_app ?_ ?_)
  · intro y hy
    obtain ⟨f, hf1, hf2⟩ := List.mem_flatMap.1 hy
    exact fldV_oct f _ (hf f hf1).1 (hf f hf1).2 y hf2
  · split
    · have hl := encB_len x.k x.i x.t hc hi.1 hi.2
      exact oct_app (oct_row 10 _ (by omega) (by have := hl.1; omega)) hl.2
    · exact fun y hy => by simp at hy

theorem procB_oct (nm : ByteArray) (ar : Int) (xs : List Ins) (hE : (procChk nm ar xs).2 = 0) (hi : ∀ x ∈ xs, InsOk x) : Oct (procB nm ar xs) := by
  have g := good_of hE
  have h1 := g.a0
  have h2 := g.a1
  have h3 := g.len
  have h4 := g.size
  have h5 := strBs_len nm
  unfold procB
  refine oct_app (oct_app (oct_app (oct_app (oct_row 10 _ (by omega) (by omega)) (oct_str nm)) (oct_row 10 _ h1 (by omega))) (oct_row 10 _ (by omega) (by omega))) ?_
  intro y hy
  obtain ⟨x, hx1, hx2⟩ := List.mem_flatMap.1 hy
  obtain ⟨j, hj⟩ := List.getElem?_of_mem hx1
  obtain ⟨q1, q2, q3⟩ := g.at hj
  exact insBx_oct x q1 q2 q3 (hi x hx1) y hx2

theorem procB_len (nm : ByteArray) (ar : Int) (xs : List Ins) (hE : (procChk nm ar xs).2 = 0) (hi : ∀ x ∈ xs, InsOk x) : (procB nm ar xs).length ≤ 100000000 := by
  have g := good_of hE
  have h4 := g.size
  have h5 := strBs_len nm
  have h3 := g.len
  have r1 := rowF_le 10 ((strBs nm).length : Nat)
  have r2 := rowF_le 10 ar
  have r3 := rowF_le 10 (xs.length : Int)
  have hc := code_len xs (fun x hx => by
    obtain ⟨j, hj⟩ := List.getElem?_of_mem hx
    exact insBx_len x (g.at hj).2.2 (hi x hx))
  have : 1002000 * xs.length ≤ 1002000 * 64 := Nat.mul_le_mul_left _ h3
  unfold procB
  simp only [List.length_append]
  omega

/-- The law's two first blocks: the procedure, the instruction. -/
structure Bst (w W : World) (nm : ByteArray) (ar : Int) (S : Value) (x : Ins) : Prop where
  r0 : W.heap[w.heap.size]? = some (po nm ar S)
  r1 : W.heap[w.heap.size + 1]? = some (io x.op x.a x.b x.c x.n x.k x.i x.t)
  hb : Below w.heap.size w W

theorem Bst.below {w W W' : World} {nm : ByteArray} {ar : Int} {S : Value} {x : Ins} (h : Bst w W nm ar S x) (hb : Below W.heap.size W W') : Bst w W' nm ar S x :=
  ⟨blk_of hb h.r0 (lt_of h.r0), blk_of hb h.r1 (lt_of h.r1), below_on h.hb hb⟩

theorem bst_start (w : World) (nm : ByteArray) (ar : Int) (S : Value) (x : Ins) : Bst w ((w.alloc (po nm ar S)).alloc (io x.op x.a x.b x.c x.n x.k x.i x.t)) nm ar S x := ⟨two1 w _ _, two2 w _ _, below2 w _ _⟩

set_option maxRecDepth 100000 in
set_option maxHeartbeats 4000000 in
theorem back_err (nm : ByteArray) (ar : Int) (S : Value) (xs : List Ins) (x : Ins) (i : Int) (w : World) (h : Rf w 8 S xs.length (xs.flatMap Ins.cells)) (hi : ∀ x ∈ xs, InsOk x) (hl : (xs.length : Int) ≤ 65536) (hE : (procChk nm ar xs).2 ≠ 0) :
    Calls Try.prog 6 #[.agg #[.string nm, .int .i64 ar, S], x.val, .int .i64 i] w fun x w' => x = .returned (.bool true) ∧ Below w.heap.size w w' := by
  obtain ⟨E1, E, hR⟩ : ∃ R1 R2, procChk nm ar xs = (R1, R2) := ⟨_, _, rfl⟩
  have HC := hid (fun W hW => pcheck_any nm ar S xs W hW (by omega))
  have HE := hid (fun W hW => pencode_any nm ar S xs W hW (by omega) hi)
  unfold PEnc at HE
  rw [hR] at HC HE hE
  dsimp only at HC HE hE
  have HH := hid (code_of_rf h)
  obtain ⟨ao, cap, rfl, _, _⟩ := h.shape
  have H0 := hid (bst_start w nm ar (.slice ao xs.length cap) x)
  have he2 : (E == 0) = false := by simpa using hE
  have HE0 := hid hE
  unfold Ins.val
  clear h hi hR hE
  go_enter Try.func6, Try.ntmps6
  go_wp2_with (first
    | (go_at_call 10
       refine (HC.out _ (HH.out.below H0.out.hb)).mono ?_
       rintro e w1 ⟨rfl, hb1⟩
       have H1 := hid (H0.out.below hb1)
       obtain ⟨p0, p1', p2', -⟩ := vfacts H1.out.r0
       clear hb1)
    | (go_at_call 14
       refine (HE.out _ (HH.out.below H1.out.hb)).mono ?_
       rintro e w2 (⟨-, rfl, hb2⟩ | ⟨h2, -⟩)
       rotate_left
       · exact absurd h2 HE0.out
       have H2 := hid (H1.out.below hb2)
       clear hb2)
    | (go_at_call 13
       refine (known_any _).mono ?_
       rintro e w3 ⟨rfl, hb3⟩
       have H3 := hid (below_on H2.out.hb hb3)
       clear hb3))
  go_ret
  exact ⟨rfl, H3.out⟩

theorem dst_code {W : World} {cb : Nat} {xs : List Ins} (hc : ∀ (j : Nat) (x : Ins), xs[j]? = some x → InsAt W cb (j * 8) x) : CodeAt W (.slice (some ⟨cb, 0, none⟩) xs.length xs.length) xs :=
  ⟨_, _, rfl, Nat.le_refl _, fun _ => ⟨cb, 0, rfl, fun j x hx => by rw [Nat.zero_add]; exact hc j x hx⟩⟩

/-- An instruction stored. -/
def put8 (W : World) (g o : Nat) (x : Ins) : World := ((((((((W.setCell ⟨g, o, none⟩ (.int .i64 x.op)).setCell ⟨g, o + 1, none⟩ (.int .i64 x.a)).setCell ⟨g, o + 2, none⟩ (.int .i64 x.b)).setCell ⟨g, o + 3, none⟩ (.int .i64 x.c)).setCell ⟨g, o + 4, none⟩ (.int .i64 x.n)).setCell ⟨g, o + 5, none⟩ (.int .i64 x.k)).setCell ⟨g, o + 6, none⟩ (.int .i64 x.i)).setCell ⟨g, o + 7, none⟩ (.string x.t))

theorem put8_block (W : World) (g o : Nat) (x : Ins) (k : Nat) (hk : k ≠ g) : (put8 W g o x).heap[k]? = W.heap[k]? := by
  unfold put8
  repeat rw [Below.heap_setCell _ _ _ _ hk]

theorem put8_kept (W : World) (g o : Nat) (x : Ins) : Kept (fun k => k = g) W (put8 W g o x) := by
  unfold put8
  exact ((((((((Kept.refl (fun k => k = g) W).setCell (p := ⟨g, o, none⟩) (fun _ => rfl) _).setCell (p := ⟨g, o + 1, none⟩) (fun _ => rfl) _).setCell (p := ⟨g, o + 2, none⟩) (fun _ => rfl) _).setCell (p := ⟨g, o + 3, none⟩) (fun _ => rfl) _).setCell (p := ⟨g, o + 4, none⟩) (fun _ => rfl) _).setCell (p := ⟨g, o + 5, none⟩) (fun _ => rfl) _).setCell (p := ⟨g, o + 6, none⟩) (fun _ => rfl) _).setCell (p := ⟨g, o + 7, none⟩) (fun _ => rfl) _

theorem put8_out (W : World) (g o : Nat) (x : Ins) (q : Nat) (hq : q < o ∨ o + 8 ≤ q) : (put8 W g o x).cell? ⟨g, q, none⟩ = W.cell? ⟨g, q, none⟩ := by
  unfold put8
  rw [cs_other (adr_ne (by omega)), cs_other (adr_ne (by omega)), cs_other (adr_ne (by omega)), cs_other (adr_ne (by omega)), cs_other (adr_ne (by omega)), cs_other (adr_ne (by omega)), cs_other (adr_ne (by omega)), cs_other (adr_ne (by omega))]

theorem put8_in (W : World) (g o : Nat) (x y : Ins) (h : InsAt W g o y) : InsAt (put8 W g o x) g o x := by
  have h1 := h.setOp x.op
  have h2 := h1.set .a x.a
  have h3 := h2.set .b x.b
  have h4 := h3.set .c x.c
  have h5 := h4.set .arg x.n
  exact h5.setV x.k x.i x.t

theorem put8_code {W : World} {g cap cN : Nat} {xs : List Ins} {x : Ins} (hcap : xs.length ≤ cap) (hc : ∀ (j : Nat) (y : Ins), xs[j]? = some y → InsAt W g (j * 8) y) (hlt : cN < xs.length) :
    CodeAt (put8 W g (cN * 8) x) (.slice (some ⟨g, 0, none⟩) xs.length cap) (xs.set cN x) := by
  refine ⟨_, _, by rw [List.length_set], by rw [List.length_set]; exact hcap, fun _ => ⟨g, 0, rfl, fun j y hy => ?_⟩⟩
  rw [Nat.zero_add]
  by_cases hj : j = cN
  · subst hj
    rw [List.getElem?_set_self hlt] at hy
    have hy := Option.some.inj hy
    subst hy
    exact put8_in W g (j * 8) x _ (hc j _ (List.getElem?_eq_getElem hlt))
  · rw [List.getElem?_set_ne (Ne.symm hj)] at hy
    exact (hc j y hy).moved (fun m hm => put8_out W g (cN * 8) x _ (by omega))

set_option maxRecDepth 100000 in
theorem ins_eql (x y : Ins) (w : World) : (binOp BinOp.eql 28 x.val y.val).run Try.prog w = .ok (.bool (decide (x = y))) w := by
  have h := ins_neq x y w
  rw [show x.val = .agg #[.int .i64 x.op, .int .i64 x.a, .int .i64 x.b, .int .i64 x.c, .int .i64 x.n, .int .i64 x.k, .int .i64 x.i, .string x.t] from rfl, show y.val = .agg #[.int .i64 y.op, .int .i64 y.a, .int .i64 y.b, .int .i64 y.c, .int .i64 y.n, .int .i64 y.k, .int .i64 y.i, .string y.t] from rfl] at h ⊢
  rw [run_neq_struct] at h
  rw [run_eql_struct]
  cases hr : (Op.equalIn 10000 28 (.agg #[.int .i64 x.op, .int .i64 x.a, .int .i64 x.b, .int .i64 x.c, .int .i64 x.n, .int .i64 x.k, .int .i64 x.i, .string x.t]) (.agg #[.int .i64 y.op, .int .i64 y.a, .int .i64 y.b, .int .i64 y.c, .int .i64 y.n, .int .i64 y.k, .int .i64 y.i, .string y.t])).run Try.prog w with
  | ok b w2 =>
    rw [hr] at h
    simp only [Result.andThen_ok] at h ⊢
    injection h with h1 h2
    injection h1 with h1
    rw [h2]
    congr 2
    cases b <;> cases hd : decide (x = y) <;> simp_all
  | _ => rw [hr] at h; simp [Result.andThen] at h

/-- The same bytes, just if it is the same instruction. -/
theorem set_same (nm : ByteArray) (ar : Int) (xs : List Ins) (x y : Ins) (cN : Nat) (hE : (procChk nm ar xs).2 = 0) (hi : ∀ x ∈ xs, InsOk x) (hx : InsOk x) (hy : xs[cN]? = some y) (hE2 : (procChk nm ar (xs.set cN x)).2 = 0) :
    decide (procB nm ar xs = procB nm ar (xs.set cN x)) = decide (x = y) := by
  have hi2 : ∀ z ∈ xs.set cN x, InsOk z := fun z hz => (List.mem_or_eq_of_mem_set hz).elim (hi z) (fun e => e ▸ hx)
  have hlt : cN < xs.length := (List.getElem?_eq_some_iff.1 hy).1
  by_cases hxy : x = y
  · subst hxy
    have e : xs.set cN x = xs := by
      apply List.ext_getElem?
      intro j
      by_cases hj : cN = j
      · subst hj; rw [List.getElem?_set_self hlt, hy]
      · rw [List.getElem?_set_ne hj]
    rw [e]
    simp
  · have hne : procB nm ar xs ≠ procB nm ar (xs.set cN x) := by
      intro e
      have d1 := dec_procB nm ar xs hE hi
      have d2 := dec_procB nm ar (xs.set cN x) hE2 hi2
      rw [e, d2] at d1
      injection d1 with d1
      injection d1 with _ d1
      injection d1 with _ d1
      have := congrArg (fun l => l[cN]?) d1
      simp only [List.getElem?_set_self hlt, hy] at this
      exact hxy (Option.some.inj this)
    rw [decide_eq_false hne, decide_eq_false hxy]

theorem tw_at {w W : World} {g g2 : Nat} {cur : Array Value} {xs zs : List Ins} {bs : List Int} (hg : w.heap.size ≤ g) (_hb : W.heap[g]? = some (.cells cur 28 (0, 0))) (hc : ∀ (j : Nat) (x : Ins), (xs ++ zs)[j]? = some x → InsAt W g (j * 8) x) (_hB : Below w.heap.size w W) (ho : Own w g2 bs) :
    (∀ (j : Nat) (x : Ins), xs[j]? = some x → InsAt W g (j * 8) x) ∧ g2 ≠ g := by
  refine ⟨fun j x hx => hc j x ?_, by have := lt_of ho; omega⟩
  rw [List.getElem?_append_left (List.getElem?_eq_some_iff.1 hx).1]
  exact hx

/-- Behind the store. -/
structure Bk2 (w W : World) (nm : ByteArray) (ar : Int) (S : Value) (x : Ins) (g2 : Nat) (bs : List Int) (S2 : Value) (ys : List Ins) (r : Nat) : Prop where
  st : Bst w W nm ar S x
  ow : Own W g2 bs
  co : CodeAt W S2 ys
  t : W.heap[r]? = some (po nm ar S2)

theorem bk_world {w w4 w5 : World} {nm : ByteArray} {ar : Int} {S : Value} {x : Ins} {g g2 c5 cN : Nat} {bs : List Int} {xs : List Ins} {cur : Array Value}
    (h : Bst w w5 nm ar S x ∧ Own w5 g2 bs ∧ ((∀ (j : Nat) (y : Ins), xs[j]? = some y → InsAt w5 g (j * 8) y) ∧ g2 ≠ g) ∧ xs.length + 9 ≤ c5 ∧ w5.heap[g]? = some (.cells cur 28 (0, 0)) ∧ w4.heap.size ≤ g ∧ w.heap.size + 1 < w4.heap.size) (hlt : cN < xs.length) :
    Bk2 w ((put8 w5 g (cN * 8) x).alloc (po nm ar (.slice (some ⟨g, 0, none⟩) xs.length c5))) nm ar S x g2 bs (.slice (some ⟨g, 0, none⟩) xs.length c5) (xs.set cN x) w5.heap.size := by
  obtain ⟨hs, ho, ⟨hc, hne⟩, hc5, hb, hg, hl⟩ := h
  have hz : (put8 w5 g (cN * 8) x).heap.size = w5.heap.size := by simp [put8, World.setCell]
  have k := put8_kept w5 g (cN * 8) x
  have b0 := (k.block _ (lt_of hs.r0) (by omega)).trans hs.r0
  have b1 := (k.block _ (lt_of hs.r1) (by omega)).trans hs.r1
  have b2 := (k.block _ (lt_of ho) hne).trans ho
  have hB : Below w.heap.size w (put8 w5 g (cN * 8) x) := hs.hb.trans (k.below hs.hb.size (fun q hq e => by omega))
  have hco := put8_code (W := w5) (x := x) (cap := c5) (by omega) hc hlt
  have hn := heap_alloc_new (put8 w5 g (cN * 8) x) (po nm ar (.slice (some ⟨g, 0, none⟩) xs.length c5))
  rw [hz] at hn
  have hbb := below1 (put8 w5 g (cN * 8) x) (po nm ar (.slice (some ⟨g, 0, none⟩) xs.length c5))
  exact ⟨⟨blk_of hbb b0 (lt_of b0), blk_of hbb b1 (lt_of b1), below_on hB hbb⟩, blk_of hbb b2 (lt_of b2), hco.below hbb, hn⟩

theorem below_drew {w0 w w1 : World} (h0 : Below w0.heap.size w0 w) (h : Below w.drew.heap.size w.drew w1) : Below w0.heap.size w0 w1 := by
  have h' : Below w.heap.size w w1 := ⟨h.os, h.tape, h.output, h.size, h.block⟩
  exact below_on h0 h'

end Go.Proofs.Ytljfmbjibjoiiaa

namespace Go.Proofs.Ytljfmbjibjoiiaa
open Go.RowKit Go.Lib

/-- While a twin is looked at. -/
structure Sns (w W : World) (nm : ByteArray) (ar : Int) (S1 S2 : Value) (g : Nat) (zs : List Ins) : Prop where
  r0 : W.heap[w.heap.size]? = some (po nm ar S1)
  r1 : W.heap[w.heap.size + 1]? = some (po nm ar S2)
  at_ : ∀ (j : Nat) (x : Ins), zs[j]? = some x → InsAt W g (j * 8) x
  hb : Below w.heap.size w W

theorem Sns.below {w W W' : World} {nm : ByteArray} {ar : Int} {S1 S2 : Value} {g : Nat} {zs : List Ins} (h : Sns w W nm ar S1 S2 g zs) (hb : Below W.heap.size W W') : Sns w W' nm ar S1 S2 g zs :=
  ⟨blk_of hb h.r0 (lt_of h.r0), blk_of hb h.r1 (lt_of h.r1), fun j x hx => (h.at_ j x hx).same (hb.block g (h.at_ j x hx).lt), below_on h.hb hb⟩

theorem sns_start (w : World) (nm : ByteArray) (ar : Int) (S1 S2 : Value) (g : Nat) (zs : List Ins) (h : ∀ (j : Nat) (x : Ins), zs[j]? = some x → InsAt w g (j * 8) x) : Sns w ((w.alloc (po nm ar S1)).alloc (po nm ar S2)) nm ar S1 S2 g zs :=
  ⟨two1 w _ _, two2 w _ _, fun j x hx => (h j x hx).same ((below2 w _ _).block g (h j x hx).lt), below2 w _ _⟩

def marks : List Ins := (List.range 9).map (fun i : Nat => markI (i : Int))

theorem marks_at (xs : List Ins) (k : Nat) (h : k < 9) : (xs ++ marks)[xs.length + k]? = some (markI (k : Int)) := by
  rw [List.getElem?_append_right (by omega)]
  simp [marks, h]

theorem tw_code {w : World} {g cap : Nat} {xs zs : List Ins} (hcap : xs.length ≤ cap) (h : ∀ (j : Nat) (x : Ins), (xs ++ zs)[j]? = some x → InsAt w g (j * 8) x) : CodeAt w (.slice (some ⟨g, 0, none⟩) xs.length cap) xs :=
  ⟨_, cap, rfl, hcap, fun _ => ⟨g, 0, rfl, fun j x hx => by rw [Nat.zero_add]; exact h j x (by rw [List.getElem?_append_left (List.getElem?_eq_some_iff.1 hx).1]; exact hx)⟩⟩

set_option maxRecDepth 100000 in
set_option maxHeartbeats 4000000 in
theorem stands_any (nm : ByteArray) (ar : Int) (g cap : Nat) (S : Value) (xs : List Ins) (w : World) (hcap : xs.length + 9 ≤ cap) (h : ∀ (j : Nat) (x : Ins), (xs ++ marks)[j]? = some x → InsAt w g (j * 8) x) (hS : CodeAt w S xs) (hl : (xs.length : Int) ≤ 65536) :
    Calls Try.prog 12 #[.agg #[.string nm, .int .i64 ar, .slice (some ⟨g, 0, none⟩) xs.length cap], .agg #[.string nm, .int .i64 ar, S]] w fun e w' => e = .returned (.bool true) ∧ Below w.heap.size w w' := by
  have H0 := hid (sns_start w nm ar (.slice (some ⟨g, 0, none⟩) xs.length cap) S g (xs ++ marks) h)
  have hc2 := hS.below (below2 w (po nm ar (.slice (some ⟨g, 0, none⟩) xs.length cap)) (po nm ar S))
  have HE := hid (same_any nm ar _ xs nm ar _ xs _ (tw_code (cap := cap) (by omega) H0.out.at_) hc2 (by omega))
  have hs1 : sameB nm ar xs nm ar xs = true := by simp [sameB]
  rw [hs1] at HE
  obtain ⟨bo, c2, rfl, hc, -⟩ := hS
  have hcap' : (xs.length : Int) + 9 ≤ (cap : Int) := by omega
  clear hs1 hc2 h hcap hc
  go_enter Try.func12, Try.ntmps12
  go_wp2_with (go_at_call 19
               refine HE.out.mono ?_
               rintro e w1 ⟨rfl, hb1⟩
               have H1 := hid (H0.out.below hb1)
               obtain ⟨p0, p1, p2, -⟩ := vfacts H1.out.r0
               obtain ⟨q0, q1, q2, -⟩ := vfacts H1.out.r1
               clear hb1)
  go_loopw [6] (fun ix wr => ∃ (k : Nat), k ≤ 9 ∧ ix = .int .i64 k ∧ Hid (Sns w wr nm ar (.slice (some ⟨g, 0, none⟩) xs.length cap) (.slice bo xs.length c2) g (xs ++ marks))) (fun ix _ => 9 - (intOf ix).toNat)
  case atStart => exact ⟨0, by omega, rfl, H1⟩
  case round =>
    clear H0 H1 HE p0 p1 p2 q0 q1 q2
    obtain ⟨k, hk, rfl, hT⟩ := hrel
    obtain ⟨q0, q1, q2, -⟩ := vfacts hT.out.r1
    by_cases hlt : k < 9
    · have hlt' : (k : Int) < 9 := by omega
      have hat := hT.out.at_ (xs.length + k) _ (marks_at xs k hlt)
      have HM := hid (fun W => mark_any (k : Int) W)
      obtain ⟨y, hy⟩ : ∃ y, y = markI (k : Int) := ⟨_, rfl⟩
      obtain ⟨z, hz⟩ : ∃ z, z = markI (k : Int) := ⟨_, rfl⟩
      rw [← hy] at hat
      rw [← hz] at HM
      obtain ⟨c0, c1, d2, c3, c4, c5, c6, c7⟩ := hat
      have hne := ins_neq y z
      rw [show decide (y = z) = true by simp [hy, hz], Bool.not_true] at hne
      clear hy hz
      unfold Ins.val at hne HM
      have hr2 : (0 : Int) ≤ (xs.length : Int) + k := by omega
      have hw9 : IntKind.i64.wrap ((xs.length : Int) + k) = (xs.length : Int) + k := by rw [IntKind.wrap_i64]; omega
      have hr9 : 0 ≤ (xs.length : Int) + k ∧ (xs.length : Int) + k < (xs.length : Int) + 9 := by omega
      have hr6 : ((xs.length : Int) + k).toNat = xs.length + k := by omega
      go_wp2
      go_region_held (fun wx => (wx.cell? ⟨g, (xs.length + k) * 8, none⟩ = some (.int .i64 y.op) ∧ wx.cell? ⟨g, (xs.length + k) * 8 + 1, none⟩ = some (.int .i64 y.a) ∧ wx.cell? ⟨g, (xs.length + k) * 8 + 2, none⟩ = some (.int .i64 y.b) ∧ wx.cell? ⟨g, (xs.length + k) * 8 + 3, none⟩ = some (.int .i64 y.c) ∧ wx.cell? ⟨g, (xs.length + k) * 8 + 4, none⟩ = some (.int .i64 y.n) ∧ wx.cell? ⟨g, (xs.length + k) * 8 + 5, none⟩ = some (.int .i64 y.k) ∧ wx.cell? ⟨g, (xs.length + k) * 8 + 6, none⟩ = some (.int .i64 y.i) ∧ wx.cell? ⟨g, (xs.length + k) * 8 + 7, none⟩ = some (.string y.t)) ∧ wx.cell? ⟨w.heap.size + 1, 2, none⟩ = some (.slice bo xs.length c2)) (go_keep) (first
        | (go_at_call 20
           refine (HM.out wr.drew).mono ?_
           rintro e w2 ⟨rfl, hb2'⟩
           have hb2 : Below wr.heap.size wr w2 := ⟨hb2'.os, hb2'.tape, hb2'.output, hb2'.size, hb2'.block⟩
           have c0 := (hb2.cell (World.block_lt_of_cell? _ _ c0)).trans c0
           have c1 := (hb2.cell (World.block_lt_of_cell? _ _ c1)).trans c1
           have d2 := (hb2.cell (World.block_lt_of_cell? _ _ d2)).trans d2
           have c3 := (hb2.cell (World.block_lt_of_cell? _ _ c3)).trans c3
           have c4 := (hb2.cell (World.block_lt_of_cell? _ _ c4)).trans c4
           have c5 := (hb2.cell (World.block_lt_of_cell? _ _ c5)).trans c5
           have c6 := (hb2.cell (World.block_lt_of_cell? _ _ c6)).trans c6
           have c7 := (hb2.cell (World.block_lt_of_cell? _ _ c7)).trans c7
           have q2 := (hb2.cell (World.block_lt_of_cell? _ _ q2)).trans q2
           have H2 := hid (hT.out.below hb2)
           clear hb2 hb2'))
      go_wp2
      go_roundw
      case rel => exact ⟨k + 1, by omega, by go_num, H2⟩
      case measure => simp [intOf]; omega
    · obtain rfl : k = 9 := by omega
      go_wp2
      go_ret
      exact ⟨rfl, hT.out.hb⟩

end Go.Proofs.Ytljfmbjibjoiiaa

namespace Go.Proofs.Ytljfmbjibjoiiaa
open Go.RowKit

theorem take_not {l : List Int} {f y : Int} {k : Nat} (h : f ∉ l.take k) (hy : l[k]? = some y) (hn : y ≠ f) : f ∉ l.take (k + 1) := by
  rw [List.take_add_one, hy]
  intro h2
  rcases List.mem_append.1 h2 with h3 | h3
  · exact h h3
  · simp at h3
    exact hn h3.symm

set_option maxRecDepth 100000 in
set_option maxHeartbeats 800000 in
theorem rhas_any (l : ByteArray) (hl : l.size ≤ 100) (f : Int) (w : World) : Calls Try.prog 61 #[.string l, .int .u8 f] w fun x w' => x = .returned (.bool (decide (f ∈ strBs l))) ∧ w' = w := by
  obtain ⟨r, hr⟩ : ∃ r, r = decide (f ∈ strBs l) := ⟨_, rfl⟩
  rw [← hr]
  have HR := hid hr
  clear hr
  go_enter Try.func61, Try.ntmps61
  go_wp2
  go_loopw [5] (fun i wr => ∃ (k : Nat), k ≤ l.size ∧ i = .int .i64 k ∧ wr = w ∧ Hid (f ∉ (strBs l).take k)) (fun i _ => l.size - (intOf i).toNat)
  case atStart => exact ⟨0, Nat.zero_le _, rfl, rfl, hid (by simp)⟩
  case round =>
    obtain ⟨k, hk, rfl, rfl, hpre⟩ := hrel
    by_cases hlt : k < l.size
    · obtain ⟨a1, ha1⟩ : ∃ a1 : UInt8, a1 = l[k]'hlt := ⟨_, rfl⟩
      have hat := strBs_at l k hlt
      rw [← ha1] at hat
      by_cases h3 : ((a1.toNat : Int) == f) = true
      · have h4 : (((l[k]'hlt).toNat : Int) == f) = true := by rw [← ha1]; exact h3
        have H3 := hid h3
        have HA := hid hat
        clear h3 hat
        go_wp2
        go_ret
        refine ⟨?_, rfl⟩
        rw [HR.out, show decide (f ∈ strBs l) = true by
          have := List.mem_of_getElem? HA.out
          rw [eq_of_beq H3.out] at this
          simpa using this]
        rfl
      · have h3 : ((a1.toNat : Int) == f) = false := by simpa using h3
        have h4 : (((l[k]'hlt).toNat : Int) == f) = false := by rw [← ha1]; exact h3
        have H3 := hid h3
        have HA := hid hat
        clear h3 hat
        go_wp2
        go_roundw
        case rel => exact ⟨k + 1, by omega, by go_num, (by first | rfl | trivial), hid (take_not hpre.out HA.out (by simpa using H3.out))⟩
        case measure => simp [intOf]; omega
    · have hall := hpre.out
      rw [List.take_of_length_le (by rw [strBs_len]; omega)] at hall
      have Hall := hid hall
      clear hall
      go_wp2
      go_ret
      refine ⟨?_, rfl⟩
      rw [HR.out, show decide (f ∈ strBs l) = false by simpa using Hall.out]
      rfl

/-- Is it a register, if there is that field; else zero? -/
def regB (l : ByteArray) (f v : Int) : Bool := if f ∈ strBs l then decide (0 ≤ v) && decide (v < 16) else v == 0

set_option maxRecDepth 100000 in
theorem rregister_any (l : ByteArray) (hl : l.size ≤ 100) (f v : Int) (w : World) : Calls Try.prog 60 #[.string l, .int .u8 f, .int .i64 v] w fun x w' => x = .returned (.bool (regB l f v)) ∧ w' = w := by
  by_cases h : f ∈ strBs l
  · have h0 : decide (f ∈ strBs l) = true := by simpa using h
    have H0 := hid h0
    have H := hid h
    clear h0 h
    rcases Bool.eq_false_or_eq_true (decide (0 ≤ v)) with h1 | h1 <;> rcases Bool.eq_false_or_eq_true (decide (v < 16)) with h2 | h2 <;>
    · go_enter Try.func60, Try.ntmps60
      go_wp2_with (go_at_call 61; refine (rhas_any l hl f _).mono ?_; rintro e w' ⟨rfl, e1⟩; rw [e1, H0.out]; clear e1 w')
      go_ret
      exact ⟨by simp [regB, H.out, h1, h2], rfl⟩
  · have h0 : decide (f ∈ strBs l) = false := by simpa using h
    have H0 := hid h0
    have H := hid h
    clear h0 h
    rcases Bool.eq_false_or_eq_true (v == 0) with h1 | h1 <;>
    · go_enter Try.func60, Try.ntmps60
      go_wp2_with (go_at_call 61; refine (rhas_any l hl f _).mono ?_; rintro e w' ⟨rfl, e1⟩; rw [e1, H0.out]; clear e1 w')
      go_ret
      exact ⟨by simp [regB, H.out, h1], rfl⟩

/-- The fields of an operation, as a text. -/
def fdS (op : Int) : ByteArray :=
  if op = 1 then ⟨#[65, 86]⟩ else if op = 2 then ⟨#[65, 78]⟩ else if op = 3 ∨ op = 14 ∨ op = 4 then ⟨#[65, 66]⟩ else if op = 5 ∨ op = 15 then ⟨#[65]⟩
  else if op = 6 ∨ op = 7 ∨ op = 8 ∨ op = 9 then ⟨#[65, 66, 67]⟩ else if op = 10 then ⟨#[66, 67, 78]⟩ else if op = 11 then ⟨#[97, 66, 67, 78]⟩ else if op = 12 ∨ op = 13 then ⟨#[65, 66, 67, 78]⟩
  else if op = 16 then emp else ⟨#[63]⟩

theorem fdS_len (op : Int) : (fdS op).size ≤ 100 := by
  unfold fdS
  (repeat' split) <;> decide

theorem op_cases (op : Int) : op = 1 ∨ op = 2 ∨ op = 3 ∨ op = 4 ∨ op = 5 ∨ op = 6 ∨ op = 7 ∨ op = 8 ∨ op = 9 ∨ op = 10 ∨ op = 11 ∨ op = 12 ∨ op = 13 ∨ op = 14 ∨ op = 15 ∨ op = 16 ∨ ¬ (1 ≤ op ∧ op ≤ 16) := by omega

theorem fdS_none (op : Int) (h : ¬ (1 ≤ op ∧ op ≤ 16)) : fdS op = ⟨#[63]⟩ := by
  unfold fdS
  (repeat' split) <;> first | rfl | omega

set_option maxRecDepth 100000 in
set_option maxHeartbeats 1600000 in
theorem rfields_any (op : Int) (w : World) : Calls Try.prog 35 #[.int .i64 op] w fun x w' => x = .returned (.string (fdS op)) ∧ w' = w := by
  rcases op_cases op with rfl | rfl | rfl | rfl | rfl | rfl | rfl | rfl | rfl | rfl | rfl | rfl | rfl | rfl | rfl | rfl | h
  case inr.inr.inr.inr.inr.inr.inr.inr.inr.inr.inr.inr.inr.inr.inr.inr =>
    rw [fdS_none op h]
    have e1 : (op == 1) = false := by simp; omega
    have e2 : (op == 2) = false := by simp; omega
    have e3 : (op == 3) = false := by simp; omega
    have e4 : (op == 4) = false := by simp; omega
    have e5 : (op == 5) = false := by simp; omega
    have e6 : (op == 6) = false := by simp; omega
    have e7 : (op == 7) = false := by simp; omega
    have e8 : (op == 8) = false := by simp; omega
    have e9 : (op == 9) = false := by simp; omega
    have e10 : (op == 10) = false := by simp; omega
    have e11 : (op == 11) = false := by simp; omega
    have e12 : (op == 12) = false := by simp; omega
    have e13 : (op == 13) = false := by simp; omega
    have e14 : (op == 14) = false := by simp; omega
    have e15 : (op == 15) = false := by simp; omega
    have e16 : (op == 16) = false := by simp; omega
    clear h
    go_enter Try.func35, Try.ntmps35
    go_wp2
    go_ret
    exact ⟨rfl, rfl⟩
  all_goals
    go_enter Try.func35, Try.ntmps35
    go_wp2
    go_ret
    exact ⟨rfl, rfl⟩

end Go.Proofs.Ytljfmbjibjoiiaa

namespace Go.Proofs.Ytljfmbjibjoiiaa
open Go.RowKit

/-- Is N what the table says? -/
def numB (ar op n : Int) : Bool :=
  if op = 2 then decide (0 ≤ n) && decide (n < ar) else if op = 10 ∨ op = 11 then decide (1 ≤ n) && decide (n ≤ 6) else if op = 12 ∨ op = 13 then decide (1 ≤ n) && decide (n ≤ 64) else n == 0

set_option maxRecDepth 100000 in
set_option maxHeartbeats 1600000 in
theorem rnumber_any (nm : ByteArray) (ar : Int) (ao : Option Addr) (len cap : Nat) (o a b c n k i : Int) (t : ByteArray) (w : World) :
    Calls Try.prog 62 #[.agg #[.string nm, .int .i64 ar, .slice ao len cap], .agg #[.int .i64 o, .int .i64 a, .int .i64 b, .int .i64 c, .int .i64 n, .int .i64 k, .int .i64 i, .string t]] w
      fun e w' => e = .returned (.bool (numB ar o n)) ∧ Below w.heap.size w w' := by
  have hb := hid (below2 w (po nm ar (.slice ao len cap)) (io o a b c n k i t))
  by_cases e2 : (o == 2) = true
  · obtain rfl : o = 2 := by simpa using e2
    rcases Bool.eq_false_or_eq_true (decide (0 ≤ n)) with h1 | h1 <;> rcases Bool.eq_false_or_eq_true (decide (n < ar)) with h2 | h2 <;>
    · go_enter Try.func62, Try.ntmps62
      go_wp2
      go_ret
      exact ⟨by simp [numB, h1, h2], hb.out⟩
  have e2 : (o == 2) = false := by simpa using e2
  by_cases f1 : o = 10 ∨ o = 11
  · rcases f1 with rfl | rfl <;> rcases Bool.eq_false_or_eq_true (decide (1 ≤ n)) with h1 | h1 <;> rcases Bool.eq_false_or_eq_true (decide (n ≤ 6)) with h2 | h2 <;>
    · go_enter Try.func62, Try.ntmps62
      go_wp2
      go_ret
      exact ⟨by simp [numB, h1, h2], hb.out⟩
  by_cases f2 : o = 12 ∨ o = 13
  · rcases f2 with rfl | rfl <;> rcases Bool.eq_false_or_eq_true (decide (1 ≤ n)) with h1 | h1 <;> rcases Bool.eq_false_or_eq_true (decide (n ≤ 64)) with h2 | h2 <;>
    · go_enter Try.func62, Try.ntmps62
      go_wp2
      go_ret
      exact ⟨by simp [numB, h1, h2], hb.out⟩
  have g1 : (o == 10) = false := by simp; omega
  have g2 : (o == 11) = false := by simp; omega
  have g3 : (o == 12) = false := by simp; omega
  have g4 : (o == 13) = false := by simp; omega
  rcases Bool.eq_false_or_eq_true (n == 0) with h1 | h1 <;>
  · have F := hid (And.intro f1 f2)
    clear f1 f2
    go_enter Try.func62, Try.ntmps62
    go_wp2
    go_ret
    exact ⟨by have e3 : ¬ o = 2 := by simpa using e2
              rw [numB, if_neg e3, if_neg F.out.1, if_neg F.out.2, h1]
              rfl, hb.out⟩

end Go.Proofs.Ytljfmbjibjoiiaa
