import Derived.Test.YthjggbcppgbdoaaK20
import Derived.Test.YthjggbcppgbdoaaK19
namespace Go.Proofs.Ythjggbcppgbdoaa
open Go.RowKit

/-- The boxes of ranged at the statement behind the first search. -/
structure R5 (w W : World) (p : Nat) (x : Sp) (v : Value) (m : Bool) (k : ByteArray) (q : Bool) (bi : Nat) : Prop where
  cs : W.heap[w.heap.size]? = some (.cells #[.pointer (some ⟨p, 0, none⟩)] 25 (0, 0))
  cw : W.heap[w.heap.size + 1]? = some (.cells #[v, .bool m] 34 (0, 0))
  cx : W.heap[w.heap.size + 1 + 1]? = some (.cells x.cells 36 (0, 0))
  cr : W.heap[w.heap.size + 1 + 1 + 1]? = some (.cells #[.slice none 0 0, .bool false] 34 (0, 0))
  ca : W.heap[w.heap.size + 1 + 1 + 1 + 1]? = some (.cells #[.string k] 9 (0, 0))
  ci : W.heap[bi]? = some (.cells #[.bool q] 4 (0, 0))
  b : Below w.heap.size w W
  n : w.heap.size ≤ bi

theorem R5.below {w W W' : World} {p : Nat} {x : Sp} {v : Value} {m : Bool} {k : ByteArray} {q : Bool} {bi : Nat} (h : R5 w W p x v m k q bi) (hb : Below W.heap.size W W') : R5 w W' p x v m k q bi :=
  ⟨hp_below h.cs hb (hp_lt h.cs), hp_below h.cw hb (hp_lt h.cw), hp_below h.cx hb (hp_lt h.cx), hp_below h.cr hb (hp_lt h.cr), hp_below h.ca hb (hp_lt h.ca), hp_below h.ci hb (hp_lt h.ci), below_on h.b hb, h.n⟩

abbrev rW (w : World) (p : Nat) (v : Value) (m : Bool) (x : Sp) : World := ((((w.alloc (.cells #[.pointer (some ⟨p, 0, none⟩)] 25)).alloc (.cells #[v, .bool m] 34)).alloc (.cells x.cells 36)).alloc (.cells #[.slice none 0 0, .bool false] 34)).alloc (.cells #[.string x.key] 9)

theorem rW_r5 (w : World) (p : Nat) (v : Value) (m : Bool) (x : Sp) (W : World) (hb : Below (rW w p v m x).heap.size (rW w p v m x) W) (q : Bool) : R5 w (W.alloc (.cells #[.bool q] 4)) p x v m x.key q W.heap.size := by
  obtain ⟨q1, q2, q3, q4, qb⟩ := four w (.cells #[.pointer (some ⟨p, 0, none⟩)] 25) (.cells #[v, .bool m] 34) (.cells x.cells 36) (.cells #[.slice none 0 0, .bool false] 34)
  have q5 := hp_new ((((w.alloc (.cells #[.pointer (some ⟨p, 0, none⟩)] 25)).alloc (.cells #[v, .bool m] 34)).alloc (.cells x.cells 36)).alloc (.cells #[.slice none 0 0, .bool false] 34)) (.cells #[.string x.key] 9)
  have q5' : (rW w p v m x).heap[w.heap.size + 1 + 1 + 1 + 1]? = some (.cells #[.string x.key] 9 (0, 0)) := by simpa using q5
  have B0 : Below w.heap.size w (rW w p v m x) := below_on qb (below_new _ _)
  have up : ∀ {g : Nat} {o : Obj}, (rW w p v m x).heap[g]? = some o → (W.alloc (.cells #[.bool q] 4)).heap[g]? = some o := fun h => hp_alloc (hp_below h hb (hp_lt h)) _
  exact ⟨up (hp_alloc q1 _), up (hp_alloc q2 _), up (hp_alloc q3 _), up (hp_alloc q4 _), up q5', hp_new _ _, below_on (below_on B0 hb) (below_new _ _), Nat.le_trans B0.size hb.size⟩

theorem rW_r5' (w : World) (p : Nat) (v : Value) (m : Bool) (x : Sp) : (rW w p v m x).heap[w.heap.size + 1]? = some (.cells #[v, .bool m] 34 (0, 0)) ∧ (rW w p v m x).heap[w.heap.size + 1 + 1 + 1 + 1]? = some (.cells #[.string x.key] 9 (0, 0)) := by
  obtain ⟨q1, q2, q3, q4, qb⟩ := four w (.cells #[.pointer (some ⟨p, 0, none⟩)] 25) (.cells #[v, .bool m] 34) (.cells x.cells 36) (.cells #[.slice none 0 0, .bool false] 34)
  have q5 := hp_new ((((w.alloc (.cells #[.pointer (some ⟨p, 0, none⟩)] 25)).alloc (.cells #[v, .bool m] 34)).alloc (.cells x.cells 36)).alloc (.cells #[.slice none 0 0, .bool false] 34)) (.cells #[.string x.key] 9)
  exact ⟨hp_alloc q2 _, by simpa using q5⟩

theorem rW_below (w : World) (p : Nat) (v : Value) (m : Bool) (x : Sp) : Below w.heap.size w (rW w p v m x) := by
  obtain ⟨-, -, -, -, qb⟩ := four w (.cells #[.pointer (some ⟨p, 0, none⟩)] 25) (.cells #[v, .bool m] 34) (.cells x.cells 36) (.cells #[.slice none 0 0, .bool false] 34)
  exact below_on qb (below_new _ _)

abbrev r8 (W : World) : World := ((W.alloc (.cells #[.bool true] 4)).alloc (.cells #[.int .i64 0] 3)).alloc (.cells #[.bool false] 4)

/-- Behind the loop, ahead of the last statement. -/
def R10 (w : World) (p : Nat) (x : Sp) (m : Bool) (l : List Pl) (F : Nat → Prop) (bi bo : Nat) (W : World) : Prop := ∃ v' F' k q ov, St W p v' m (rgI x m 201 x.key 0 l) F' ∧ (∀ j, F' j → F j ∨ w.heap.size ≤ j) ∧ ¬ F' (w.heap.size + 1 + 1 + 1) ∧ Kept F w W ∧ (ov = true ∨ q = false ∨ (x.to.toList ≠ [] ∧ kl x.to k = true)) ∧
  W.heap[w.heap.size + 1]? = some (.cells #[v', .bool m] 34 (0, 0)) ∧ W.heap[w.heap.size + 1 + 1]? = some (.cells x.cells 36 (0, 0)) ∧ W.heap[w.heap.size + 1 + 1 + 1]? = some (.cells #[.slice none 0 0, .bool false] 34 (0, 0)) ∧ W.heap[w.heap.size + 1 + 1 + 1 + 1]? = some (.cells #[.string k] 9 (0, 0)) ∧ W.heap[bi]? = some (.cells #[.bool q] 4 (0, 0)) ∧ W.heap[bo]? = some (.cells #[.bool true] 4 (0, 0)) ∧ W.heap[bo + 1 + 1]? = some (.cells #[.bool ov] 4 (0, 0))

theorem rg_tail {w W w9 : World} {p : Nat} {x : Sp} {v : Value} {m : Bool} {k : ByteArray} {q : Bool} {bi : Nat} {l : List Pl} {F : Nat → Prop} {N g1 g2 gp ge : Nat} (h : R5 w W p x v m k q bi) (hc : Cur x.key l k q) (hst : St w p v m l F) (hbd : Bd N l) (hN : N ≤ 300000) (hko : x.other.size ≤ 50000) (hkt : x.to.size ≤ 50000) (hkk : x.key.size ≤ 50000)
    (h9 : Below (r8 W).heap.size (r8 W) w9) (hs : RgB w9 g1 g2 gp ge (some ⟨p, 0, none⟩) x.key x.to) (g2n : (r8 W).heap.size ≤ g2) (gpn : (r8 W).heap.size ≤ gp) (gen : (r8 W).heap.size ≤ ge) :
    Calls Try.prog 75 #[.func (.func 67) #[] #[.pointer (some ⟨w.heap.size + 1, 0, none⟩), .pointer (some ⟨w.heap.size + 1 + 1 + 1 + 1, 0, none⟩), .pointer (some ⟨W.heap.size, 0, none⟩), .pointer (some ⟨W.heap.size + 1 + 1, 0, none⟩), .pointer (some ⟨bi, 0, none⟩), .pointer (some ⟨w.heap.size + 1 + 1, 0, none⟩), .pointer (some ⟨W.heap.size + 1, 0, none⟩), .pointer (some ⟨w.heap.size, 0, none⟩)], .pointer (some ⟨g1, 0, none⟩), .pointer (some ⟨g2, 0, none⟩)] w9 fun y w' => y = .returned (.tuple #[]) ∧ R10 w p x m l F bi W.heap.size w' := by
  obtain ⟨q1, q2, q3, qb⟩ := three W (.cells #[.bool true] 4) (.cells #[.int .i64 0] 3) (.cells #[.bool false] 4)
  have W9 := h.below (below_on qb h9)
  have hsz : (r8 W).heap.size = W.heap.size + 3 := by simp [r8]
  have hW := h.b.size
  have hbi := hp_lt h.ci
  have ha := hp_lt h.ca
  have sF : ∀ k, ¬ F (w.heap.size + k) := fun k hk => by have := hst.fl _ hk; omega
  have sG : ∀ j, w.heap.size ≤ j → ¬ F j := fun j hj hf => by have := hst.fl _ hf; omega
  have hb : RB w9 (w.heap.size + 1) (w.heap.size + 1 + 1 + 1 + 1) W.heap.size (W.heap.size + 1 + 1) bi (w.heap.size + 1 + 1) (W.heap.size + 1) w.heap.size p x v m k q false 0 :=
    ⟨W9.cw, W9.ca, hp_below q1 h9 (hp_lt q1), hp_below q3 h9 (hp_lt q3), W9.ci, W9.cx, hp_below q2 h9 (hp_lt q2), W9.cs, by omega, by omega, by omega⟩
  refine (rg_loop (hst.below W9.b) hbd hN hko hkt hkk hs hb hc ?_ ?_ (by omega)).mono ?_
  · rintro j hj
    have hn := h.n
    refine sG j ?_
    omega
  · rintro j hj
    refine sG j ?_
    omega
  · rintro y w' ⟨rfl, v', F', k', q', ov, n, r1, r2, r3, r4, r5⟩
    have hn := h.n
    have nr : ¬ (F (w.heap.size + 1 + 1 + 1) ∨ (w.heap.size + 1 + 1 + 1 = w.heap.size + 1 ∨ w.heap.size + 1 + 1 + 1 = w.heap.size + 1 + 1 + 1 + 1 ∨ w.heap.size + 1 + 1 + 1 = W.heap.size ∨ w.heap.size + 1 + 1 + 1 = W.heap.size + 1 + 1 ∨ w.heap.size + 1 + 1 + 1 = bi ∨ w.heap.size + 1 + 1 + 1 = W.heap.size + 1)) := by
      rintro (e | e | e | e | e | e | e)
      · exact sF 3 e
      · omega
      · omega
      · omega
      · omega
      · have := h.ci
        rw [← e, h.cr] at this
        cases this
      · omega
    refine ⟨rfl, v', F', k', q', ov, r2, fun j hj => (r3 j hj).imp (fun e => e) (fun e => by have := W9.b.size; omega), ?_, ?_, r5, r1.w, r1.x, hp_kept W9.cr r4 nr, r1.a, r1.i, r1.o, r1.v⟩
    · intro hf
      rcases r3 _ hf with e | e
      · exact sF 3 e
      · have := h9.size
        omega
    · exact ((Kept.ofBelow W9.b).mono (S' := F) (fun _ _ e => e.elim)).trans r4 (fun i hi e => e.elim (fun e => e) (fun e => by omega))

set_option maxRecDepth 100000 in
set_option maxHeartbeats 4000000 in
theorem ranged_any (x : Sp) (p : Nat) (v : Value) (m : Bool) (l : List Pl) (F : Nat → Prop) (N : Nat) (w : World) (hst : St w p v m l F) (hbd : Bd N l) (hN : N ≤ 300000) (hko : x.other.size ≤ 50000) (hkt : x.to.size ≤ 50000) (hkk : x.key.size ≤ 50000) :
    Calls Try.prog 38 #[.pointer (some ⟨p, 0, none⟩), .agg #[v, .bool m], x.agg] w fun y w' => ∃ v', y = .returned (.tuple #[.agg #[v', .bool m], .bool true]) ∧ After p m (rgI x m 201 x.key 0 l) F w v' w' := by
  have hmf : ∀ (fn : Fn) (first cap : Array Value) (w : World), (Instr.makeFunc fn first cap).run Try.prog w = .ok (.func fn first cap) w := fun _ _ _ _ => rfl
  obtain ⟨ao, cap, e, -, -⟩ := hst.r.1.shape
  subst e
  have hn := hbd.n
  have hcur := cur_first (K := x.key) hst.z.sorted
  have TL := hid (fun W k q bi (h : R5 w W p x (.slice ao l.length cap) m k q bi) (hc : Cur x.key l k q) w9 g1 g2 gp ge h9 hs e2 ep ee => rg_tail (w9 := w9) (g1 := g1) (g2 := g2) (gp := gp) (ge := ge) h hc hst hbd hN hko hkt hkk h9 hs e2 ep ee)
  have SR := hid (fun W => srange_any (some ⟨p, 0, none⟩) x.key x.to W (by omega) (by omega))
  have RW2 := hid (show (rW w p (.slice ao l.length cap) m x).heap[w.heap.size + 1]? = some (.cells #[.slice ao l.length cap, .bool m] 34 (0, 0)) from (rW_r5' w p (.slice ao l.length cap) m x).1)
  have RWA := hid (show (rW w p (.slice ao l.length cap) m x).heap[w.heap.size + 1 + 1 + 1 + 1]? = some (.cells #[.string x.key] 9 (0, 0)) from (rW_r5' w p (.slice ao l.length cap) m x).2)
  have R5A := hid (rW_r5 w p (.slice ao l.length cap) m x)
  have D1 := hid (rget_any (.slice ao l.length cap) m l x.key (rW w p (.slice ao l.length cap) m x) (hst.r.below (rW_below _ _ _ _ _)).1 (by omega))
  have D2 := hid (fun W (hb : Below w.heap.size w W) => dnext (.slice ao l.length cap) m l x.key W (hst.r.below hb) (by omega))
  have HS := hid hst
  obtain ⟨xk, xv, xn, key, to, oth⟩ := x
  simp only at hcur TL SR R5A D1 D2 RW2 RWA
  clear hst hbd hN hko hkt hkk hn
  generalize rgetV key l = gg at hcur D1
  obtain ⟨gy, gq⟩ := gg
  simp only at hcur D1
  have R5B := hid (fun W hb => R5A.out W hb gq)
  clear R5A
  generalize nxP key l = nn at hcur D2
  obtain ⟨nk, nq⟩ := nn
  simp only at hcur D2
  have H5A := hid (show ∀ w2 w1, R5 w w2 p ⟨xk, xv, xn, key, to, oth⟩ (.slice ao l.length cap) m key false w1 → R5 w ((w2.setCell ⟨w.heap.size + 1 + 1 + 1 + 1, 0, none⟩ (.string nk)).setCell ⟨w1, 0, none⟩ (.bool nq)) p ⟨xk, xv, xn, key, to, oth⟩ (.slice ao l.length cap) m nk nq w1 from fun w2 w1 h => by
    have hlt := hp_lt h.ca
    have n1 : ∀ g o, w2.heap[g]? = some o → (∀ c, o ≠ .cells c 4 (0, 0)) → g ≠ w1 := fun g o hg ho e => by subst e; rw [h.ci] at hg; cases hg; exact ho _ rfl
    have a1 := n1 _ _ h.cs (by intro c e; cases e)
    have a2 := n1 _ _ h.cw (by intro c e; cases e)
    have a3 := n1 _ _ h.cx (by intro c e; cases e)
    have a4 := n1 _ _ h.cr (by intro c e; cases e)
    have a5 := n1 _ _ h.ca (by intro c e; cases e)
    have hn := h.n
    refine ⟨hp_set (hp_set h.cs (show w.heap.size ≠ w.heap.size + 1 + 1 + 1 + 1 by omega) _) a1 _, hp_set (hp_set h.cw (show w.heap.size + 1 ≠ w.heap.size + 1 + 1 + 1 + 1 by omega) _) a2 _, hp_set (hp_set h.cx (show w.heap.size + 1 + 1 ≠ w.heap.size + 1 + 1 + 1 + 1 by omega) _) a3 _, hp_set (hp_set h.cr (show w.heap.size + 1 + 1 + 1 ≠ w.heap.size + 1 + 1 + 1 + 1 by omega) _) a4 _, hp_set (set_block (i := 0) h.ca _) a5 _, set_block (i := 0) (hp_set h.ci (fun e => a5 e.symm) _) _, ?_, hn⟩
    exact (Kept.ofBelow h.b |>.mono (S' := fun j => j = w.heap.size + 1 + 1 + 1 + 1 ∨ j = w1) (fun _ _ e => e.elim) |>.setCell (p := ⟨w.heap.size + 1 + 1 + 1 + 1, 0, none⟩) (fun _ => .inl rfl) _ |>.setCell (p := ⟨w1, 0, none⟩) (fun _ => .inr rfl) _).below (Nat.le_refl _) (fun j hj e => by omega))
  cases gq
  all_goals
    simp only [if_true, if_false, Bool.false_eq_true] at hcur
    have HC := hid hcur
    clear hcur
    go_enter Try.func38, Try.ntmps38
    obtain ⟨y0, y1⟩ := cells2 (show (rW w p (.slice ao l.length cap) m ⟨xk, xv, xn, key, to, oth⟩).heap[w.heap.size + 1]? = _ from RW2.out)
    have y2 := cells1 RWA.out
    go_upto_region 5 with (first
      | (go_at_call 40
         refine D1.out.mono ?_
         rintro e w1 ⟨rfl, hb⟩
         have H1 := hid (R5B.out w1 hb)
         obtain ⟨z0, z1⟩ := cells2 H1.out.cw
         have z2 := cells1 H1.out.ca
         have z3 := cells1 H1.out.ci
         have nai : w.heap.size + 1 + 1 + 1 + 1 ≠ w1.heap.size := by
           intro e
           have := H1.out.ca
           rw [e, H1.out.ci] at this
           cases this
         clear hb D1 R5B y0 y1 y2)
      | (go_at_call 41
         refine (D2.out _ H1.out.b).mono ?_
         rintro e w2 ⟨rfl, hb⟩
         have H2 := hid (H1.out.below hb)
         have f1 : w2.frozen? ⟨w.heap.size + 1 + 1 + 1 + 1, 0, none⟩ = false := free_of_block H2.out.ca
         have f2 : w2.frozen? ⟨w1.heap.size, 0, none⟩ = false := free_of_block H2.out.ci
         have u2 := cells1 H2.out.ca
         have u3 := cells1 H2.out.ci
         clear hb D2 z0 z1 z2 z3))
  have H5 := hid (H5A.out w2 w1.heap.size H2.out)
  clear H1 H2 u2 u3 f1 f2 nai
  generalize (w2.setCell ⟨w.heap.size + 1 + 1 + 1 + 1, 0, none⟩ (.string nk)).setCell ⟨w1.heap.size, 0, none⟩ (.bool nq) = W5 at H5 ⊢
  rotate_left
  have H5 := H1
  clear H1 z0 z1 z2 z3 nai
  generalize w1.alloc (.cells #[.bool true] 4) = W5 at H5 ⊢
  rotate_left
  all_goals
    have H8 := hid (H5.out.below (three W5 (.cells #[.bool true] 4) (.cells #[.int .i64 0] 3) (.cells #[.bool false] 4)).2.2.2)
    have z8 := cells1 H8.out.cs
    obtain ⟨x0, x1, x2, x3, x4, x5⟩ : (r8 W5).cell? ⟨w.heap.size + 1 + 1, 0, none⟩ = some (.int .i64 xk) ∧ (r8 W5).cell? ⟨w.heap.size + 1 + 1, 1, none⟩ = some (.int .i64 xv) ∧ (r8 W5).cell? ⟨w.heap.size + 1 + 1, 2, none⟩ = some (.int .i64 xn) ∧ (r8 W5).cell? ⟨w.heap.size + 1 + 1, 3, none⟩ = some (.string key) ∧ (r8 W5).cell? ⟨w.heap.size + 1 + 1, 4, none⟩ = some (.string to) ∧ (r8 W5).cell? ⟨w.heap.size + 1 + 1, 5, none⟩ = some (.string oth) := cells6 H8.out.cx
    unfold r8 at x0 x1 x2 x3 x4 x5
    clear H5A
    go_upto_region 9 with (first
      | (go_at_call 19
         refine (SR.out _).mono ?_
         rintro e w9 ⟨g1, g2, gp, ge, rfl, hs, hb, e1, e2, ep, ee⟩
         have L2 := hid (TL.out W5 _ _ _ H5.out HC.out w9 g1 g2 gp ge hb hs e2 ep ee)
         clear hb hs e1 e2 ep ee x0 x1 x2 x3 x4 x5 z8)
      | (go_at_call 75
         refine L2.out.mono ?_
         rintro e w10 ⟨rfl, hR⟩
         have RR := hid hR
         clear hR L2))
    obtain ⟨v', F', k', q', ov, r1, r2, r3, r4, r5, s1, s2, s3, s4, s5, s6, s7⟩ := RR.out
    obtain ⟨ao2, cap2, eu, -, -⟩ := r1.r.1.shape
    generalize (_ : List Pl).length = n2 at eu
    subst eu
    obtain ⟨d0, d1⟩ := cells2 s1
    obtain ⟨x0, x1, x2, x3, x4, x5⟩ : w10.cell? ⟨w.heap.size + 1 + 1, 0, none⟩ = some (.int .i64 xk) ∧ w10.cell? ⟨w.heap.size + 1 + 1, 1, none⟩ = some (.int .i64 xv) ∧ w10.cell? ⟨w.heap.size + 1 + 1, 2, none⟩ = some (.int .i64 xn) ∧ w10.cell? ⟨w.heap.size + 1 + 1, 3, none⟩ = some (.string key) ∧ w10.cell? ⟨w.heap.size + 1 + 1, 4, none⟩ = some (.string to) ∧ w10.cell? ⟨w.heap.size + 1 + 1, 5, none⟩ = some (.string oth) := cells6 s2
    obtain ⟨d2, d3⟩ := cells2 s3
    have d4 := cells1 s4
    have d5 := cells1 s5
    have d6 := cells1 s6
    have d7 := cells1 s7
    have fr : ∀ j, w10.frozen? ⟨w.heap.size + 1 + 1 + 1, j, none⟩ = false := fun j => free_of_block s3
    have hcc : ov = true ∨ (ov = false ∧ q' = false) ∨ (ov = false ∧ q' = true ∧ ((to.toList != []) = true ∧ (to.toList == []) = false) ∧ Op.bytesLess k'.toList to.toList = false ∧ (k'.toList == to.toList) = false) := by
      cases ov
      · cases q'
        · exact .inr (.inl ⟨rfl, rfl⟩)
        · rcases r5 with e | e | ⟨e1, e2⟩
          · cases e
          · cases e
          · exact .inr (.inr ⟨rfl, rfl, ⟨by simpa using e1, by simpa using e1⟩, by
            have := leq_eq k' to
            rw [e2] at this
            simpa [Bool.or_eq_false_iff] using this⟩)
      · exact .inl rfl
    have FIN := hid (show ∀ w11, Below w10.heap.size w10 w11 → w11.heap[w.heap.size + 1 + 1 + 1]? = some (.cells #[.slice none 0 0, .bool false] 34 (0, 0)) ∧ After p m (rgI ⟨xk, xv, xn, key, to, oth⟩ m 201 key 0 l) F w (.slice ao2 n2 cap2) ((w11.setCell ⟨w.heap.size + 1 + 1 + 1, 0, none⟩ (.slice ao2 n2 cap2)).setCell ⟨w.heap.size + 1 + 1 + 1, 1, none⟩ (.bool m)) from fun w11 hb => by
      have hx := hp_below s3 hb (hp_lt s3)
      refine ⟨hx, ?_⟩
      obtain ⟨F2, f1, f2, f3⟩ := st_fin (w := w) r1.z (r1.r.below hb) hb hx r3 (by omega) r4
      exact ⟨F2, f1, fun j hj => r2 j (f2 j hj), f3⟩)
    clear RR r1 r2 r3 r4 r5 s1 s2 s3 s4 s5 s6 s7 TL SR H5 H8 HC HS
    rcases hcc with rfl | ⟨rfl, rfl⟩ | ⟨rfl, rfl, ⟨b1, b0⟩, b2, b3⟩
    all_goals
      go_region
      go_wp2
      obtain ⟨g1, g2⟩ := FIN.out w10.drew (Below.refl _ _).drew
      refine bodyPost_ret (ret_agg34i Try.results38 rfl rfl (set2 g1 _ _)) rfl ?_
      exact ⟨_, rfl, g2⟩

end Go.Proofs.Ythjggbcppgbdoaa

namespace Go.Proofs.Ythjggbcppgbdoaa
open Go.RowKit

/-- The boxes of shot. -/
structure HX (W : World) (bo bv bi ba by_ bn bs bw bx p : Nat) (x : Sp) (v : Value) (m : Bool) (k : ByteArray) (y : Int) (q ov : Bool) (n : Int) : Prop where
  w : W.heap[bw]? = some (.cells #[v, .bool m] 34 (0, 0))
  o : W.heap[bo]? = some (.cells #[.bool true] 4 (0, 0))
  v : W.heap[bv]? = some (.cells #[.bool ov] 4 (0, 0))
  i : W.heap[bi]? = some (.cells #[.bool q] 4 (0, 0))
  a : W.heap[ba]? = some (.cells #[.string k] 9 (0, 0))
  y : W.heap[by_]? = some (.cells #[.int .i64 y] 3 (0, 0))
  n : W.heap[bn]? = some (.cells #[.int .i64 n] 3 (0, 0))
  s : W.heap[bs]? = some (.cells #[.pointer (some ⟨p, 0, none⟩)] 25 (0, 0))
  x : W.heap[bx]? = some (.cells x.cells 36 (0, 0))
  nov : bo ≠ bv
  noi : bo ≠ bi
  nvi : bv ≠ bi
  nyn : by_ ≠ bn

theorem HX.kept {W : World} {bo bv bi ba by_ bn bs bw bx p : Nat} {x : Sp} {v : Value} {m : Bool} {k : ByteArray} {y : Int} {q ov : Bool} {n : Int} {W' : World} {S : Nat → Prop} (h : HX W bo bv bi ba by_ bn bs bw bx p x v m k y q ov n) (hk : Kept S W W') (hs : ∀ j, (j = bo ∨ j = bv ∨ j = bi ∨ j = ba ∨ j = by_ ∨ j = bn ∨ j = bs ∨ j = bw ∨ j = bx) → ¬ S j) : HX W' bo bv bi ba by_ bn bs bw bx p x v m k y q ov n :=
  ⟨hp_kept h.w hk (hs _ (by simp)), hp_kept h.o hk (hs _ (by simp)), hp_kept h.v hk (hs _ (by simp)), hp_kept h.i hk (hs _ (by simp)), hp_kept h.a hk (hs _ (by simp)), hp_kept h.y hk (hs _ (by simp)), hp_kept h.n hk (hs _ (by simp)), hp_kept h.s hk (hs _ (by simp)), hp_kept h.x hk (hs _ (by simp)), h.nov, h.noi, h.nvi, h.nyn⟩
theorem HX.below {W : World} {bo bv bi ba by_ bn bs bw bx p : Nat} {x : Sp} {v : Value} {m : Bool} {k : ByteArray} {y : Int} {q ov : Bool} {n : Int} {W' : World} (h : HX W bo bv bi ba by_ bn bs bw bx p x v m k y q ov n) (hb : Below W.heap.size W W') : HX W' bo bv bi ba by_ bn bs bw bx p x v m k y q ov n := h.kept (Kept.ofBelow hb) (fun _ _ e => e)
theorem HX.nes {W : World} {bo bv bi ba by_ bn bs bw bx p : Nat} {x : Sp} {v : Value} {m : Bool} {k : ByteArray} {y : Int} {q ov : Bool} {n : Int} (h : HX W bo bv bi ba by_ bn bs bw bx p x v m k y q ov n) : bo ≠ bv ∧ bo ≠ bi ∧ bo ≠ ba ∧ bo ≠ by_ ∧ bo ≠ bn ∧ bo ≠ bs ∧ bo ≠ bw ∧ bo ≠ bx ∧ bv ≠ bi ∧ bv ≠ ba ∧ bv ≠ by_ ∧ bv ≠ bn ∧ bv ≠ bs ∧ bv ≠ bw ∧ bv ≠ bx ∧ bi ≠ ba ∧ bi ≠ by_ ∧ bi ≠ bn ∧ bi ≠ bs ∧ bi ≠ bw ∧ bi ≠ bx ∧ ba ≠ by_ ∧ ba ≠ bn ∧ ba ≠ bs ∧ ba ≠ bw ∧ ba ≠ bx ∧ by_ ≠ bn ∧ by_ ≠ bs ∧ by_ ≠ bw ∧ by_ ≠ bx ∧ bn ≠ bs ∧ bn ≠ bw ∧ bn ≠ bx ∧ bs ≠ bw ∧ bs ≠ bx ∧ bw ≠ bx := by
  refine ⟨h.nov, h.noi, ?_, ?_, ?_, ?_, ?_, ?_, h.nvi, ?_, ?_, ?_, ?_, ?_, ?_, ?_, ?_, ?_, ?_, ?_, ?_, ?_, ?_, ?_, ?_, ?_, h.nyn, ?_, ?_, ?_, ?_, ?_, ?_, ?_, ?_, ?_⟩
  · intro e; subst e; have := h.o; rw [h.a] at this; cases this
  · intro e; subst e; have := h.o; rw [h.y] at this; cases this
  · intro e; subst e; have := h.o; rw [h.n] at this; cases this
  · intro e; subst e; have := h.o; rw [h.s] at this; cases this
  · intro e; subst e; have := h.o; rw [h.w] at this; cases this
  · intro e; subst e; have := h.o; rw [h.x] at this; cases this
  · intro e; subst e; have := h.v; rw [h.a] at this; cases this
  · intro e; subst e; have := h.v; rw [h.y] at this; cases this
  · intro e; subst e; have := h.v; rw [h.n] at this; cases this
  · intro e; subst e; have := h.v; rw [h.s] at this; cases this
  · intro e; subst e; have := h.v; rw [h.w] at this; cases this
  · intro e; subst e; have := h.v; rw [h.x] at this; cases this
  · intro e; subst e; have := h.i; rw [h.a] at this; cases this
  · intro e; subst e; have := h.i; rw [h.y] at this; cases this
  · intro e; subst e; have := h.i; rw [h.n] at this; cases this
  · intro e; subst e; have := h.i; rw [h.s] at this; cases this
  · intro e; subst e; have := h.i; rw [h.w] at this; cases this
  · intro e; subst e; have := h.i; rw [h.x] at this; cases this
  · intro e; subst e; have := h.a; rw [h.y] at this; cases this
  · intro e; subst e; have := h.a; rw [h.n] at this; cases this
  · intro e; subst e; have := h.a; rw [h.s] at this; cases this
  · intro e; subst e; have := h.a; rw [h.w] at this; cases this
  · intro e; subst e; have := h.a; rw [h.x] at this; cases this
  · intro e; subst e; have := h.y; rw [h.s] at this; cases this
  · intro e; subst e; have := h.y; rw [h.w] at this; cases this
  · intro e; subst e; have := h.y; rw [h.x] at this; cases this
  · intro e; subst e; have := h.n; rw [h.s] at this; cases this
  · intro e; subst e; have := h.n; rw [h.w] at this; cases this
  · intro e; subst e; have := h.n; rw [h.x] at this; cases this
  · intro e; subst e; have := h.s; rw [h.w] at this; cases this
  · intro e; subst e; have := h.s; rw [h.x] at this; cases this
  · intro e; subst e; have := h.w; rw [h.x] at this; cases this
theorem HX.off {W : World} {bo bv bi ba by_ bn bs bw bx p : Nat} {x : Sp} {v : Value} {m : Bool} {k : ByteArray} {y : Int} {q ov : Bool} {n : Int} (h : HX W bo bv bi ba by_ bn bs bw bx p x v m k y q ov n) {u : Value} {l : List Pl} (hr : RL W u l) : ∀ j, u.ownBlock = some j → ¬ (j = bo ∨ j = bv ∨ j = bi ∨ j = ba ∨ j = by_ ∨ j = bn ∨ j = bs ∨ j = bw ∨ j = bx) := by
  intro j hj
  rintro (e | e | e | e | e | e | e | e | e) <;> subst e
  · exact rl_apart hr hj h.o (by simp)
  · exact rl_apart hr hj h.v (by simp)
  · exact rl_apart hr hj h.i (by simp)
  · exact rl_apart hr hj h.a (by simp)
  · exact rl_apart hr hj h.y (by simp)
  · exact rl_apart hr hj h.n (by simp)
  · exact rl_apart hr hj h.s (by simp)
  · exact rl_apart hr hj h.w (by simp)
  · exact rl_apart hr hj h.x (by simp)
theorem HX.lt {W : World} {bo bv bi ba by_ bn bs bw bx p : Nat} {x : Sp} {v : Value} {m : Bool} {k : ByteArray} {y : Int} {q ov : Bool} {n : Int} (h : HX W bo bv bi ba by_ bn bs bw bx p x v m k y q ov n) : ∀ j, (j = bo ∨ j = bv ∨ j = bi ∨ j = ba ∨ j = by_ ∨ j = bn ∨ j = bs ∨ j = bw ∨ j = bx) → j < W.heap.size := by
  rintro j (e | e | e | e | e | e | e | e | e) <;> subst e
  · exact hp_lt h.o
  · exact hp_lt h.v
  · exact hp_lt h.i
  · exact hp_lt h.a
  · exact hp_lt h.y
  · exact hp_lt h.n
  · exact hp_lt h.s
  · exact hp_lt h.w
  · exact hp_lt h.x

end Go.Proofs.Ythjggbcppgbdoaa

namespace Go.Proofs.Ythjggbcppgbdoaa
open Go.RowKit

/-- Behind a turn of shot. -/
def ShP (bo bv bi ba by_ bn bs bw bx p : Nat) (x : Sp) (m : Bool) (k : ByteArray) (l : List Pl) (F : Nat → Prop) (n : Int) (ov : Bool) (w w' : World) : Prop :=
  ∃ v' F', HX w' bo bv bi ba by_ bn bs bw bx p x v' m (rabV k m (turnL x m l)).1 (rabV k m (turnL x m l)).2.1 (rabV k m (turnL x m l)).2.2 ov (n + 1) ∧ St w' p v' m (turnL x m l) F' ∧ (∀ j, F' j → F j ∨ w.heap.size ≤ j) ∧ Kept (fun j => F j ∨ (j = bo ∨ j = bv ∨ j = bi ∨ j = ba ∨ j = by_ ∨ j = bn ∨ j = bw)) w w'

set_option maxRecDepth 100000 in
set_option maxHeartbeats 4000000 in
theorem sh69 (bo bv bi ba by_ bn bs bw bx p : Nat) (x : Sp) (v : Value) (m : Bool) (k : ByteArray) (y : Int) (l : List Pl) (F : Nat → Prop) (n : Int) (w : World) (hb : HX w bo bv bi ba by_ bn bs bw bx p x v m k y true false n) (hst : St w p v m l F) (hF : ∀ j, (j = bo ∨ j = bv ∨ j = bi ∨ j = ba ∨ j = by_ ∨ j = bn ∨ j = bs ∨ j = bw ∨ j = bx) → ¬ F j) (hl : l.length ≤ 400000) (hl2 : (turnL x m l).length ≤ 500000) (ho : x.other.size ≤ 281474976710656) (hn0 : 0 ≤ n) (hn1 : n ≤ 200) (ov : Bool) (hov : ov = (decide (n + 1 = x.n) || decide (n + 1 > 200))) :
    Calls Try.prog 69 #[.string k, .int .i64 y, .pointer (some ⟨bo, 0, none⟩), .pointer (some ⟨bv, 0, none⟩), .pointer (some ⟨bi, 0, none⟩), .pointer (some ⟨ba, 0, none⟩), .pointer (some ⟨by_, 0, none⟩), .pointer (some ⟨bn, 0, none⟩), .pointer (some ⟨bs, 0, none⟩), .pointer (some ⟨bw, 0, none⟩), .pointer (some ⟨bx, 0, none⟩)] w fun e w' => e = .returned (.bool (!ov)) ∧ ShP bo bv bi ba by_ bn bs bw bx p x m k l F n ov w w' := by
  have NE := hid hb.nes
  obtain ⟨ao, cap, e, -, -⟩ := hst.r.1.shape
  subst e
  have offb := hb.off hst.r
  have K1 := hid (show Kept (fun j => j = bo) w (w.setCell ⟨bo, 0, none⟩ (.bool true)) from (Kept.refl (fun j => j = bo) w).setCell (p := ⟨bo, 0, none⟩) (fun _ => rfl) _)
  have H1 := hid (show HX (w.setCell ⟨bo, 0, none⟩ (.bool true)) bo bv bi ba by_ bn bs bw bx p x (.slice ao l.length cap) m k y true false n from by obtain ⟨nov, noi, noa, noy, non, nos, now, nox, nvi, nva, nvy, nvn, nvs, nvw, nvx, nia, niy, nin, nis, niw, nix, nay, nan, nas, naw, nax, nyn, nys, nyw, nyx, nns, nnw, nnx, nsw, nsx, nwx⟩ := NE.out; exact ⟨hp_set (hb.w) (fun e => now e.symm) _, set_block (i := 0) (hb.o) _, hp_set (hb.v) (fun e => nov e.symm) _, hp_set (hb.i) (fun e => noi e.symm) _, hp_set (hb.a) (fun e => noa e.symm) _, hp_set (hb.y) (fun e => noy e.symm) _, hp_set (hb.n) (fun e => non e.symm) _, hp_set (hb.s) (fun e => nos e.symm) _, hp_set (hb.x) (fun e => nox e.symm) _, nov, noi, nvi, nyn⟩)
  have T2 := hid (show ∀ W2, Kept (fun j => j = bo ∨ j = bn) w W2 → _ from fun W2 hk => turn_any x p (.slice ao l.length cap) m l F W2 (hst.kept hk (fun j hj e => e.elim (fun e => hF j (by simp [e]) hj) (fun e => hF j (by simp [e]) hj)) (fun j hj e => offb j hj (e.elim (fun e => by simp [e]) (fun e => by simp [e])))) (by omega) ho)
  have HB := hid hb
  have HF := hid hF
  obtain ⟨xk, xv, xn, key, to, oth⟩ := x
  simp only at T2 hov
  have HN := hid (show ∀ u W, RL W u (turnL ⟨xk, xv, xn, key, to, oth⟩ m l) → _ from fun u W hr => dabove u m (turnL ⟨xk, xv, xn, key, to, oth⟩ m l) k W hr (by omega))
  unfold ShP
  generalize turnL ⟨xk, xv, xn, key, to, oth⟩ m l = l' at T2 HN ⊢
  generalize rabV k m l' = nn at HN ⊢
  obtain ⟨nk, ny, nq⟩ := nn
  simp only at HN ⊢
  have c2 := cells1 hb.o
  have c3 := cells1 hb.v
  have c4 := cells1 hb.i
  have c5 := cells1 hb.a
  have c6 := cells1 hb.y
  have c7 := cells1 hb.n
  have fo : w.frozen? ⟨bo, 0, none⟩ = false := free_of_block hb.o
  have fn : w.frozen? ⟨bn, 0, none⟩ = false := free_of_block hb.n
  have hnw : IntKind.i64.wrap (n + 1) = n + 1 := by rw [IntKind.wrap_i64]; omega
  have hoo : ((n + 1 == xn) = true ∧ ov = true) ∨ ((n + 1 == xn) = false ∧ decide (200 < n + 1) = true ∧ ov = true) ∨ ((n + 1 == xn) = false ∧ decide (200 < n + 1) = false ∧ ov = false) := by
    by_cases h1 : n + 1 = xn
    · exact .inl ⟨by simp [h1], by simp [hov, h1]⟩
    · by_cases h2 : n + 1 > 200
      · exact .inr (.inl ⟨by simp [h1], by simp [h2], by simp only [hov, h1, h2]; rfl⟩)
      · exact .inr (.inr ⟨by simp [h1], by simp; omega, by simp only [hov, h1, h2]; rfl⟩)
  clear hb hst hF hl hl2 ho hov offb hn0 hn1
  rcases hoo with ⟨h1, rfl⟩ | ⟨h1, h2, rfl⟩ | ⟨h1, h2, rfl⟩
  all_goals
    go_enter Try.func69, Try.ntmps69
    go_upto_region 2 with (fail)
    clear c2 c3 c4 c5 c6 c7 fo fn
    generalize w.setCell ⟨bo, 0, none⟩ (.bool true) = W1 at H1 K1 ⊢
    have K2 := hid (show Kept (fun j => j = bo ∨ j = bn) w (W1.setCell ⟨bn, 0, none⟩ (.int .i64 (n + 1))) from (K1.out.mono (S' := fun j => j = bo ∨ j = bn) (fun _ _ e => .inl e)).setCell (p := ⟨bn, 0, none⟩) (fun _ => .inr rfl) _)
    have H2 := hid (show HX (W1.setCell ⟨bn, 0, none⟩ (.int .i64 (n + 1))) bo bv bi ba by_ bn bs bw bx p ⟨xk, xv, xn, key, to, oth⟩ (.slice ao l.length cap) m k y true false (n + 1) from by obtain ⟨nov, noi, noa, noy, non, nos, now, nox, nvi, nva, nvy, nvn, nvs, nvw, nvx, nia, niy, nin, nis, niw, nix, nay, nan, nas, naw, nax, nyn, nys, nyw, nyx, nns, nnw, nnx, nsw, nsx, nwx⟩ := NE.out; exact ⟨hp_set (H1.out.w) (fun e => nnw e.symm) _, hp_set (H1.out.o) non _, hp_set (H1.out.v) nvn _, hp_set (H1.out.i) nin _, hp_set (H1.out.a) nan _, hp_set (H1.out.y) nyn _, set_block (i := 0) (H1.out.n) _, hp_set (H1.out.s) (fun e => nns e.symm) _, hp_set (H1.out.x) (fun e => nnx e.symm) _, nov, noi, nvi, nyn⟩)
    have T3 := hid (T2.out _ K2.out)
    have c7 := cells1 H1.out.n
    have fn : W1.frozen? ⟨bn, 0, none⟩ = false := free_of_block H1.out.n
    clear T2
    go_upto_region 3 with (fail)
    clear c7 fn H1
    generalize W1.setCell ⟨bn, 0, none⟩ (.int .i64 (n + 1)) = W2 at H2 K2 T3 ⊢
    obtain ⟨x0, x1, x2, x3, x4, x5⟩ : W2.cell? ⟨bx, 0, none⟩ = some (.int .i64 xk) ∧ W2.cell? ⟨bx, 1, none⟩ = some (.int .i64 xv) ∧ W2.cell? ⟨bx, 2, none⟩ = some (.int .i64 xn) ∧ W2.cell? ⟨bx, 3, none⟩ = some (.string key) ∧ W2.cell? ⟨bx, 4, none⟩ = some (.string to) ∧ W2.cell? ⟨bx, 5, none⟩ = some (.string oth) := cells6 H2.out.x
    obtain ⟨d0, d1⟩ := cells2 H2.out.w
    have d8 := cells1 H2.out.s
    go_upto_region 4 with (
      go_at_call 68
      refine T3.out.mono ?_
      rintro e w3 ⟨v', rfl, F', hS, hG, hK⟩
      obtain ⟨ao2, cap2, eu, -, -⟩ := hS.r.1.shape
      generalize (_ : List Pl).length = n2 at eu
      subst eu
      have S3 := hid hS
      have G3 := hid hG
      have K3 := hid hK
      have H3 := hid (H2.out.kept hK HF.out)
      obtain ⟨e0, e1⟩ := cells2 H3.out.w
      have fw : ∀ j, w3.frozen? ⟨bw, j, none⟩ = false := fun j => free_of_block H3.out.w
      clear hS hG hK T3 x0 x1 x2 x3 x4 x5 d0 d1 d8)
    have H4 := hid (show HX ((w3.setCell ⟨bw, 0, none⟩ (.slice ao2 n2 cap2)).setCell ⟨bw, 1, none⟩ (.bool m)) bo bv bi ba by_ bn bs bw bx p ⟨xk, xv, xn, key, to, oth⟩ (.slice ao2 n2 cap2) m k y true false (n + 1) from by
      obtain ⟨nov, noi, noa, noy, non, nos, now, nox, nvi, nva, nvy, nvn, nvs, nvw, nvx, nia, niy, nin, nis, niw, nix, nay, nan, nas, naw, nax, nyn, nys, nyw, nyx, nns, nnw, nnx, nsw, nsx, nwx⟩ := NE.out
      exact ⟨set2 H3.out.w _ _, hp_set (hp_set (H3.out.o) now _) now _, hp_set (hp_set (H3.out.v) nvw _) nvw _, hp_set (hp_set (H3.out.i) niw _) niw _, hp_set (hp_set (H3.out.a) naw _) naw _, hp_set (hp_set (H3.out.y) nyw _) nyw _, hp_set (hp_set (H3.out.n) nnw _) nnw _, hp_set (hp_set (H3.out.s) nsw _) nsw _, hp_set (hp_set (H3.out.x) (fun e => nwx e.symm) _) (fun e => nwx e.symm) _, nov, noi, nvi, nyn⟩)
    have K4 := hid (show Kept (fun j => j = bw) w3 ((w3.setCell ⟨bw, 0, none⟩ (.slice ao2 n2 cap2)).setCell ⟨bw, 1, none⟩ (.bool m)) from ((Kept.refl (fun j => j = bw) w3).setCell (p := ⟨bw, 0, none⟩) (fun _ => rfl) _).setCell (p := ⟨bw, 1, none⟩) (fun _ => rfl) _)
    have NF := hid (show ∀ j, (j = bo ∨ j = bv ∨ j = bi ∨ j = ba ∨ j = by_ ∨ j = bn ∨ j = bs ∨ j = bw ∨ j = bx) → ¬ F' j from fun j hj hf => (G3.out j hf).elim (HF.out j hj) (fun q => by
      have e1 := K2.out.size
      have e2 := HB.out.lt j hj
      omega))
    have S4 := hid (S3.out.kept K4.out (fun j hj e => NF.out j (by simp [e]) hj) (fun j hj e => H3.out.off S3.out.r j hj (by simp [e])))
    have D5 := hid (HN.out _ _ S4.out.r)
    clear HN e0 e1 fw S3 H3
    generalize (w3.setCell ⟨bw, 0, none⟩ (.slice ao2 n2 cap2)).setCell ⟨bw, 1, none⟩ (.bool m) = W4 at H4 K4 S4 D5 ⊢
    obtain ⟨d0, d1⟩ := cells2 H4.out.w
    have d2 := cells1 H4.out.a
    go_upto_region 5 with (
      go_at_call 44
      refine D5.out.mono ?_
      rintro e w5 ⟨rfl, hb⟩
      have B5 := hid hb
      have H5 := hid (H4.out.below hb)
      have e2 := cells1 H5.out.a
      have e5 := cells1 H5.out.i
      have e6 := cells1 H5.out.y
      have fa : w5.frozen? ⟨ba, 0, none⟩ = false := free_of_block H5.out.a
      have fi : w5.frozen? ⟨bi, 0, none⟩ = false := free_of_block H5.out.i
      have fy : w5.frozen? ⟨by_, 0, none⟩ = false := free_of_block H5.out.y
      obtain ⟨nay, niy, nia⟩ : ba ≠ by_ ∧ bi ≠ by_ ∧ bi ≠ ba := by
        obtain ⟨nov, noi, noa, noy, non, nos, now, nox, nvi, nva, nvy, nvn, nvs, nvw, nvx, nia, niy, nin, nis, niw, nix, nay, nan, nas, naw, nax, nyn, nys, nyw, nyx, nns, nnw, nnx, nsw, nsx, nwx⟩ := NE.out
        exact ⟨nay, niy, nia⟩
      clear hb D5 d0 d1 d2)
    clear nay niy nia
    have H6 := hid (show HX (((w5.setCell ⟨ba, 0, none⟩ (.string nk)).setCell ⟨by_, 0, none⟩ (.int .i64 ny)).setCell ⟨bi, 0, none⟩ (.bool nq)) bo bv bi ba by_ bn bs bw bx p ⟨xk, xv, xn, key, to, oth⟩ (.slice ao2 n2 cap2) m nk ny nq false (n + 1) from by
      obtain ⟨nov, noi, noa, noy, non, nos, now, nox, nvi, nva, nvy, nvn, nvs, nvw, nvx, nia, niy, nin, nis, niw, nix, nay, nan, nas, naw, nax, nyn, nys, nyw, nyx, nns, nnw, nnx, nsw, nsx, nwx⟩ := NE.out
      exact ⟨hp_set (hp_set (hp_set (H5.out.w) (fun e => naw e.symm) _) (fun e => nyw e.symm) _) (fun e => niw e.symm) _, hp_set (hp_set (hp_set (H5.out.o) noa _) noy _) noi _, hp_set (hp_set (hp_set (H5.out.v) nva _) nvy _) nvi _, set_block (i := 0) (hp_set (hp_set (H5.out.i) nia _) niy _) _, hp_set (hp_set (set_block (i := 0) (H5.out.a) _) nay _) (fun e => nia e.symm) _, hp_set (set_block (i := 0) (hp_set (H5.out.y) (fun e => nay e.symm) _) _) (fun e => niy e.symm) _, hp_set (hp_set (hp_set (H5.out.n) (fun e => nan e.symm) _) (fun e => nyn e.symm) _) (fun e => nin e.symm) _, hp_set (hp_set (hp_set (H5.out.s) (fun e => nas e.symm) _) (fun e => nys e.symm) _) (fun e => nis e.symm) _, hp_set (hp_set (hp_set (H5.out.x) (fun e => nax e.symm) _) (fun e => nyx e.symm) _) (fun e => nix e.symm) _, nov, noi, nvi, nyn⟩)
    have K6 := hid (show Kept (fun j => j = ba ∨ j = by_ ∨ j = bi) W4 (((w5.setCell ⟨ba, 0, none⟩ (.string nk)).setCell ⟨by_, 0, none⟩ (.int .i64 ny)).setCell ⟨bi, 0, none⟩ (.bool nq)) from ((((Kept.ofBelow B5.out).mono (S' := fun j => j = ba ∨ j = by_ ∨ j = bi) (fun _ _ e => e.elim)).setCell (p := ⟨ba, 0, none⟩) (fun _ => .inl rfl) _).setCell (p := ⟨by_, 0, none⟩) (fun _ => .inr (.inl rfl)) _).setCell (p := ⟨bi, 0, none⟩) (fun _ => .inr (.inr rfl)) _)
    clear e2 e5 e6 fa fi fy H5 B5
    generalize ((w5.setCell ⟨ba, 0, none⟩ (.string nk)).setCell ⟨by_, 0, none⟩ (.int .i64 ny)).setCell ⟨bi, 0, none⟩ (.bool nq) = W6 at H6 K6 ⊢
    obtain ⟨x0, x1, x2, x3, x4, x5⟩ : W6.cell? ⟨bx, 0, none⟩ = some (.int .i64 xk) ∧ W6.cell? ⟨bx, 1, none⟩ = some (.int .i64 xv) ∧ W6.cell? ⟨bx, 2, none⟩ = some (.int .i64 xn) ∧ W6.cell? ⟨bx, 3, none⟩ = some (.string key) ∧ W6.cell? ⟨bx, 4, none⟩ = some (.string to) ∧ W6.cell? ⟨bx, 5, none⟩ = some (.string oth) := cells6 H6.out.x
    have d3 := cells1 H6.out.o
    have d4 := cells1 H6.out.v
    have d7 := cells1 H6.out.n
    have nov : bo ≠ bv := H6.out.nov
    have fv : W6.frozen? ⟨bv, 0, none⟩ = false := free_of_block H6.out.v
    go_wp2_with fail
    go_ret
    have KA : Kept (fun j => F j ∨ (j = bo ∨ j = bv ∨ j = bi ∨ j = ba ∨ j = by_ ∨ j = bn ∨ j = bw)) w W6 := by
      have k1 := K2.out.mono (S' := fun j => F j ∨ (j = bo ∨ j = bv ∨ j = bi ∨ j = ba ∨ j = by_ ∨ j = bn ∨ j = bw)) (fun i _ e => by rcases e with e | e <;> simp [e])
      have k2 := k1.trans K3.out (fun i _ e => .inl e)
      have k3 := k2.trans K4.out (fun i _ e => by simp [e])
      exact k3.trans K6.out (fun i _ e => by rcases e with e | e | e <;> simp [e])
    obtain ⟨nov, noi, noa, noy, non, nos, now, nox, nvi, nva, nvy, nvn, nvs, nvw, nvx, nia, niy, nin, nis, niw, nix, nay, nan, nas, naw, nax, nyn, nys, nyw, nyx, nns, nnw, nnx, nsw, nsx, nwx⟩ := NE.out
    refine ⟨rfl, _, F', ⟨hp_set (H6.out.w) (fun e => nvw e.symm) _, hp_set (H6.out.o) nov _, set_block (i := 0) (H6.out.v) _, hp_set (H6.out.i) (fun e => nvi e.symm) _, hp_set (H6.out.a) (fun e => nva e.symm) _, hp_set (H6.out.y) (fun e => nvy e.symm) _, hp_set (H6.out.n) (fun e => nvn e.symm) _, hp_set (H6.out.s) (fun e => nvs e.symm) _, hp_set (H6.out.x) (fun e => nvx e.symm) _, nov, noi, nvi, nyn⟩, ?_, ?_, KA.setCell (p := ⟨bv, 0, none⟩) (fun _ => by simp) _⟩
    · have k7 : ∀ u, Kept (fun j => j = ba ∨ j = by_ ∨ j = bi ∨ j = bv) W4 (W6.setCell ⟨bv, 0, none⟩ u) := fun u => (K6.out.mono (S' := fun j => j = ba ∨ j = by_ ∨ j = bi ∨ j = bv) (fun i _ e => by rcases e with e | e | e <;> simp [e])).setCell (p := ⟨bv, 0, none⟩) (fun _ => by simp) _
      exact S4.out.kept (k7 _) (fun j hj e => NF.out j (by rcases e with e | e | e | e <;> simp [e]) hj) (fun j hj e => H4.out.off S4.out.r j hj (by rcases e with e | e | e | e <;> simp [e]))
    · exact fun j hj => (G3.out j hj).imp (fun e => e) (fun q => by have := K2.out.size; omega)

end Go.Proofs.Ythjggbcppgbdoaa
