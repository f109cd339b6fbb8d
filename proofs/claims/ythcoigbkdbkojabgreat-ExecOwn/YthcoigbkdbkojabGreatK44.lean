import Derived.Test.YthcoigbkdbkojabGreatK43
namespace Go.Proofs.YthcoigbkdbkojabGreat
open Go.RowKit Go.MapKept
open V (hp_new hp_lt hp_below hp_alloc kl)
def d1 (j : Nat) : Int := 10 + (j : Int)
def d3 (j : Nat) : ByteArray := mkStr [10 + (j : Int)]
def mk3 (x : Nat) : Value := .string (mkStr [(x : Int)])
theorem conv_new (x : Int) (W : World) : (convert 53 9 (.slice (some ⟨W.heap.size, 0, none⟩) 1 1)).run Tryz.prog (W.alloc (.cells #[.int .u8 x] 5)) = .ok (.string (mkStr [x])) (W.alloc (.cells #[.int .u8 x] 5)) := by
  refine sl_string (bs := [x]) ⟨some ⟨W.heap.size, 0, none⟩, 1, rfl, Nat.le_refl _, fun _ => ⟨W.heap.size, 0, rfl, fun j y hj => ?_⟩⟩
  rw [cell_of_row _ _ _ _ _ _ (hp_new W _)]
  cases j with
  | zero => simp at hj; subst hj; rfl
  | succ j => simp at hj
theorem conv_newD (x : Int) (W : World) : (convert 53 9 (.slice (some ⟨W.heap.size, 0, none⟩) 1 1)).run Tryz.prog (W.alloc (.cells #[.int .u8 x] 5)).drew = .ok (.string (mkStr [x])) (W.alloc (.cells #[.int .u8 x] 5)).drew := by
  refine sl_string (bs := [x]) ⟨some ⟨W.heap.size, 0, none⟩, 1, rfl, Nat.le_refl _, fun _ => ⟨W.heap.size, 0, rfl, fun j y hj => ?_⟩⟩
  show (W.alloc (.cells #[.int .u8 x] 5)).cell? _ = _
  rw [cell_of_row _ _ _ _ _ _ (hp_new W _)]
  cases j with
  | zero => simp at hj; subst hj; rfl
  | succ j => simp at hj
theorem conv_newD2 (x : Int) (W : World) (o : Obj) : (convert 53 9 (.slice (some ⟨W.heap.size + 1, 0, none⟩) 1 1)).run Tryz.prog ((W.alloc o).alloc (.cells #[.int .u8 x] 5)).drew = .ok (.string (mkStr [x])) ((W.alloc o).alloc (.cells #[.int .u8 x] 5)).drew := by
  have h := conv_newD x (W.alloc o)
  rwa [show (W.alloc o).heap.size = W.heap.size + 1 from by simp] at h
theorem cell_set2 {W : World} {g a p : Nat} {v : Value} (hne : g ≠ a) (h : W.cell? ⟨a, p, none⟩ = some v) (o1 o2 : Nat) (u1 u2 : Value) : ((W.setCell ⟨g, o1, none⟩ u1).setCell ⟨g, o2, none⟩ u2).cell? ⟨a, p, none⟩ = some v :=
  (((Kept.refl (fun q => q = g) W).setCell (p := ⟨g, o1, none⟩) (fun _ => rfl) u1).setCell (p := ⟨g, o2, none⟩) (fun _ => rfl) u2).cell h (fun e => hne e.symm)
theorem cell_set2a {W : World} {g a p : Nat} {v : Value} (hne : g ≠ a) (h : W.cell? ⟨a, p, none⟩ = some v) (o1 o2 : Nat) (u1 u2 : Value) (o : Obj) : (((W.setCell ⟨g, o1, none⟩ u1).setCell ⟨g, o2, none⟩ u2).alloc o).drew.cell? ⟨a, p, none⟩ = some v := by
  have h1 := cell_set2 hne h o1 o2 u1 u2
  exact ((below1 _ o).cell (World.block_lt_of_cell? _ _ h1)).trans h1
theorem wpList_conv {ops : Array Oper} {rest : List Oper} {o : Oper} {a : Act} {Q : Exit → Act → World → Prop} (hgd : o.guard = none) (s d : TypeId) (x : Operand) (ho : o.op = .convert s d x) (v r : Value) (w : World) (hs : a.eval x = v) (hrun : (convert s d v).run Tryz.prog w = .ok r w) (h : wpList Tryz.prog ops Q rest (a.put o.dst r) w) : wpList Tryz.prog ops Q (o :: rest) a w := by
  refine wpList_plain hgd fun K hK => ?_
  unfold Oper.wp execOp
  simp only [ho, Sem.run_bind, Sem.run_pure, Result.andThen_ok, hs, hrun]
  exact hK _ _ h
theorem rf_new2 (W : World) (o : Obj) (t : TypeId) (cs : Array Value) (m : Nat) (hm : cs.size = m) (h1 : ∀ u ∈ cs.toList, u.oneCell' = true) : Rf ((W.alloc o).alloc (.cells cs t)) m (.slice (some ⟨W.heap.size + 1, 0, none⟩) 1 1) 1 cs.toList := by
  have h := rf_new (W.alloc o) t cs m hm h1
  rwa [show (W.alloc o).heap.size = W.heap.size + 1 from by simp] at h
structure DS (WA W : World) (f : Ef) (A1 A2 A3' : Nat → Option Addr) (q1 q2 q3 L : Nat → Nat) (n1 n2 n3 i k1 k2 k3 : Nat) : Prop where
  ex : ∃ m1 m2 m3, MF WA W f A1 A2 A3' q1 q2 q3 L m1 m2 m3 ∧ Mk d1 i k1 n1 m1 ∧ Mk d1 i k2 n2 m2 ∧ Mk d3 i k3 n3 m3
  lw : L 0 ≤ W.heap.size
  e1 : f.td.length = n1
  e2 : f.wr.length = n2
  e3 : f.lk.length = n3
section
variable {WA W W' : World} {f : Ef} {A1 A2 A3' : Nat → Option Addr} {q1 q2 q3 L : Nat → Nat} {n1 n2 n3 i k1 k2 k3 : Nat}
theorem OF.ds (h : OF WA W f 3 A1 A2 A3' q1 q2 q3 L) (e1 : f.td.length = n1) (e2 : f.wr.length = n2) (e3 : f.lk.length = n3) : DS WA W f A1 A2 A3' q1 q2 q3 L n1 n2 n3 0 0 0 0 := by
  obtain ⟨m1, m2, m3, h1⟩ := h.mf
  exact ⟨⟨m1, m2, m3, h1, Mk.zero _ _ _, Mk.zero _ _ _, Mk.zero _ _ _⟩, Nat.le_trans (h.lle 3 (Nat.le_refl _)) h.ll, e1, e2, e3⟩
theorem DS.below (h : DS WA W f A1 A2 A3' q1 q2 q3 L n1 n2 n3 i k1 k2 k3) (hb : Below W.heap.size W W') : DS WA W' f A1 A2 A3' q1 q2 q3 L n1 n2 n3 i k1 k2 k3 := by
  obtain ⟨m1, m2, m3, h1, h2⟩ := h.ex
  exact ⟨⟨m1, m2, m3, h1.below hb, h2⟩, Nat.le_trans h.lw hb.size, h.e1, h.e2, h.e3⟩
theorem DS.lt (h : DS WA W f A1 A2 A3' q1 q2 q3 L n1 n2 n3 i k1 k2 k3) : WA.heap.size < W.heap.size := by
  obtain ⟨m1, m2, m3, h1, -⟩ := h.ex
  have := h.lw
  have := h1.l0
  omega
theorem DS.next (h : DS WA W f A1 A2 A3' q1 q2 q3 L n1 n2 n3 i n1 n2 n3) : DS WA W f A1 A2 A3' q1 q2 q3 L n1 n2 n3 (i + 1) 0 0 0 := by
  obtain ⟨m1, m2, m3, h1, h2, h3, h4⟩ := h.ex
  exact ⟨⟨m1, m2, m3, h1, h2.next, h3.next, h4.next⟩, h.lw, h.e1, h.e2, h.e3⟩
theorem DS.at_ (h : DS WA W f A1 A2 A3' q1 q2 q3 L n1 n2 n3 i k1 k2 k3) {j : Nat} (hj : j < 3) : W.cell? ⟨WA.heap.size, j * 5 + 2, none⟩ = some (.slice (A1 j) n1 (q1 j)) ∧ W.cell? ⟨WA.heap.size, j * 5 + 3, none⟩ = some (.slice (A2 j) n2 (q2 j)) ∧ W.cell? ⟨WA.heap.size, j * 5 + 4, none⟩ = some (.slice (A3' j) n3 (q3 j)) := by
  obtain ⟨m1, m2, m3, h1, h2⟩ := h.ex
  obtain ⟨-, -, c2, c3, c4⟩ := h1.at_ hj
  rw [← h.e1, ← h.e2, ← h.e3]
  exact ⟨c2, c3, c4⟩
theorem DS.set1 (h : DS WA W f A1 A2 A3' q1 q2 q3 L n1 n2 n3 i k1 k2 k3) (hi : i < 3) (hk : k1 < n1) :
    ∃ g cap, A1 i = some ⟨g, 0, none⟩ ∧ q1 i = cap ∧ n1 ≤ cap ∧ cap ≤ maxLen ∧ (∃ u0 u1 u2, W.cell? ⟨g, k1 * 3, none⟩ = some u0 ∧ W.cell? ⟨g, k1 * 3 + 1, none⟩ = some u1 ∧ W.cell? ⟨g, k1 * 3 + 2, none⟩ = some u2) ∧ (∀ o, W.frozen? ⟨g, o, none⟩ = false) ∧
      ∀ u1 u2 : Value, u1.oneCell' = true ∧ u2.oneCell' = true → DS WA (((W.setCell ⟨g, k1 * 3, none⟩ (.int .i64 (10 + (i : Int)))).setCell ⟨g, k1 * 3 + 1, none⟩ u1).setCell ⟨g, k1 * 3 + 2, none⟩ u2) f A1 A2 A3' q1 q2 q3 L n1 n2 n3 i (k1 + 1) k2 k3 := by
  obtain ⟨m1, m2, m3, h1, h2, h3, h4⟩ := h.ex
  have e1 := h.e1
  subst e1
  obtain ⟨g, cap, hv, hc1, hc2, -, -, -, -, hfz⟩ := (h1.f1.li i hi).at_ hk
  have hall := (h1.f1.li i hi).all hk hv
  injection hv with hA _ hq
  obtain ⟨u0, c0⟩ := hall 0 (by omega)
  obtain ⟨u1, c1⟩ := hall 1 (by omega)
  obtain ⟨u2, c2⟩ := hall 2 (by omega)
  refine ⟨g, cap, hA, hq, hc1, hc2, ⟨u0, u1, u2, c0, c1, c2⟩, hfz, fun v1 v2 ho => ?_⟩
  obtain ⟨g', hA', hM⟩ := h1.set1 hi hk (10 + (i : Int)) ho
  rw [hA] at hA'
  injection hA' with hA'
  injection hA' with hA'
  subst hA'
  exact ⟨⟨_, m2, m3, hM, h2.step, h3, h4⟩, Nat.le_trans h.lw (by simp), rfl, h.e2, h.e3⟩
theorem DS.set2 (h : DS WA W f A1 A2 A3' q1 q2 q3 L n1 n2 n3 i k1 k2 k3) (hi : i < 3) (hk : k2 < n2) :
    ∃ g cap, A2 i = some ⟨g, 0, none⟩ ∧ q2 i = cap ∧ n2 ≤ cap ∧ cap ≤ maxLen ∧ (∃ u0 u1 u2 u3, W.cell? ⟨g, k2 * 4, none⟩ = some u0 ∧ W.cell? ⟨g, k2 * 4 + 1, none⟩ = some u1 ∧ W.cell? ⟨g, k2 * 4 + 2, none⟩ = some u2 ∧ W.cell? ⟨g, k2 * 4 + 3, none⟩ = some u3) ∧ (∀ o, W.frozen? ⟨g, o, none⟩ = false) ∧
      ∀ u0 u2 u3 : Value, u0.oneCell' = true ∧ u2.oneCell' = true ∧ u3.oneCell' = true → DS WA ((((W.setCell ⟨g, k2 * 4, none⟩ u0).setCell ⟨g, k2 * 4 + 1, none⟩ (.int .i64 (10 + (i : Int)))).setCell ⟨g, k2 * 4 + 2, none⟩ u2).setCell ⟨g, k2 * 4 + 3, none⟩ u3) f A1 A2 A3' q1 q2 q3 L n1 n2 n3 i k1 (k2 + 1) k3 := by
  obtain ⟨m1, m2, m3, h1, h2, h3, h4⟩ := h.ex
  have e2 := h.e2
  subst e2
  obtain ⟨g, cap, hv, hc1, hc2, -, -, -, -, hfz⟩ := (h1.f2.li i hi).at_ hk
  have hall := (h1.f2.li i hi).all hk hv
  injection hv with hA _ hq
  obtain ⟨u0, c0⟩ := hall 0 (by omega)
  obtain ⟨u1, c1⟩ := hall 1 (by omega)
  obtain ⟨u2, c2⟩ := hall 2 (by omega)
  obtain ⟨u3, c3⟩ := hall 3 (by omega)
  refine ⟨g, cap, hA, hq, hc1, hc2, ⟨u0, u1, u2, u3, c0, c1, c2, c3⟩, hfz, fun v0 v2 v3 ho => ?_⟩
  obtain ⟨g', hA', hM⟩ := h1.set2 hi hk (10 + (i : Int)) ho
  rw [hA] at hA'
  injection hA' with hA'
  injection hA' with hA'
  subst hA'
  exact ⟨⟨m1, _, m3, hM, h2, h3.step, h4⟩, Nat.le_trans h.lw (by simp), h.e1, rfl, h.e3⟩
theorem DS.set3 (h : DS WA W f A1 A2 A3' q1 q2 q3 L n1 n2 n3 i k1 k2 k3) (hi : i < 3) (hk : k3 < n3) :
    ∃ g cap, A3' i = some ⟨g, 0, none⟩ ∧ q3 i = cap ∧ n3 ≤ cap ∧ cap ≤ maxLen ∧ (∃ u0 u1, W.cell? ⟨g, k3 * 2, none⟩ = some u0 ∧ W.cell? ⟨g, k3 * 2 + 1, none⟩ = some u1) ∧ (∀ o, W.frozen? ⟨g, o, none⟩ = false) ∧ g < W.heap.size ∧ g ≠ WA.heap.size ∧
      ∀ W' : World, Below W.heap.size W W' → ∀ u1 : Value, u1.oneCell' = true → DS WA ((W'.setCell ⟨g, k3 * 2, none⟩ (.string (mkStr [10 + (i : Int)]))).setCell ⟨g, k3 * 2 + 1, none⟩ u1) f A1 A2 A3' q1 q2 q3 L n1 n2 n3 i k1 k2 (k3 + 1) := by
  obtain ⟨m1, m2, m3, h1, h2, h3, h4⟩ := h.ex
  have e3 := h.e3
  subst e3
  obtain ⟨g, cap, hv, hc1, hc2, hg1, -, hg3, -, hfz⟩ := (h1.f3.li i hi).at_ hk
  have hall := (h1.f3.li i hi).all hk hv
  injection hv with hA _ hq
  obtain ⟨u0, c0⟩ := hall 0 (by omega)
  obtain ⟨u1, c1⟩ := hall 1 (by omega)
  refine ⟨g, cap, hA, hq, hc1, hc2, ⟨u0, u1, c0, c1⟩, hfz, hg3, (by have := h1.l0; have := h1.f3.le i 0 (Nat.zero_le _) (by omega); omega), fun W' hb v1 ho => ?_⟩
  obtain ⟨g', hA', hM⟩ := (h1.below hb).set3 hi hk (mkStr [10 + (i : Int)]) ho
  rw [hA] at hA'
  injection hA' with hA'
  injection hA' with hA'
  subst hA'
  exact ⟨⟨m1, m2, _, hM, h2, h3, h4.step⟩, Nat.le_trans h.lw (by simpa using hb.size), h.e1, h.e2, rfl⟩
end
structure EI (WA W : World) (f : Ef) (A1 A2 A3' : Nat → Option Addr) (q1 q2 q3 : Nat → Nat) (B b1 b2 b3 n1 n2 n3 i k1 k2 k3 : Nat) (V1 V2 V3 : Value) : Prop where
  ex : ∃ X1 X2 X3, ES WA W f mk3 A1 A2 A3' q1 q2 q3 B b1 b2 b3 i k1 k2 k3 X1 X2 X3 ∧ X1 i = V1 ∧ X2 i = V2 ∧ X3 i = V3 ∧ ∀ j, i < j → j < 3 → X1 j = .slice (A1 j) n1 (q1 j) ∧ X2 j = .slice (A2 j) n2 (q2 j) ∧ X3 j = .slice (A3' j) n3 (q3 j)
  e1 : f.td.length = n1
  e2 : f.wr.length = n2
  e3 : f.lk.length = n3
  g1 : WA.heap.size < b1
  g2 : WA.heap.size < b2
  g3 : WA.heap.size < b3
structure EO (WA W : World) (f : Ef) (A1 A2 A3' : Nat → Option Addr) (q1 q2 q3 : Nat → Nat) (B b1 b2 b3 n1 n2 n3 i : Nat) : Prop where
  ex : ∃ X1 X2 X3, ES WA W f mk3 A1 A2 A3' q1 q2 q3 B b1 b2 b3 i 0 0 0 X1 X2 X3 ∧ ∀ j, i ≤ j → j < 3 → X1 j = .slice (A1 j) n1 (q1 j) ∧ X2 j = .slice (A2 j) n2 (q2 j) ∧ X3 j = .slice (A3' j) n3 (q3 j)
  e1 : f.td.length = n1
  e2 : f.wr.length = n2
  e3 : f.lk.length = n3
  g1 : WA.heap.size < b1
  g2 : WA.heap.size < b2
  g3 : WA.heap.size < b3
section
variable {WA W W' : World} {f : Ef} {A1 A2 A3' : Nat → Option Addr} {q1 q2 q3 L : Nat → Nat} {B b1 b2 b3 n1 n2 n3 i k1 k2 k3 : Nat} {V1 V2 V3 : Value}
theorem DS.eo (h : DS WA W f A1 A2 A3' q1 q2 q3 L n1 n2 n3 3 0 0 0)
    (c1 : ∃ cs, W.heap[b1]? = some (.cells cs 56 (0, 0)) ∧ cs.size = 3) (c2 : ∃ cs, W.heap[b2]? = some (.cells cs 57 (0, 0)) ∧ cs.size = 3) (c3 : ∃ cs, W.heap[b3]? = some (.cells cs 58 (0, 0)) ∧ cs.size = 3)
    (g1 : WA.heap.size < b1) (g2 : WA.heap.size < b2) (g3 : WA.heap.size < b3) : EO WA W f A1 A2 A3' q1 q2 q3 (L 0) b1 b2 b3 n1 n2 n3 0 := by
  obtain ⟨m1, m2, m3, h1, h2, h3, h4⟩ := h.ex
  have e1 := h.e1
  have e2 := h.e2
  have e3 := h.e3
  subst e1 e2 e3
  exact ⟨⟨_, _, _, h1.es (mk3 := mk3) h2 h3 h4 (fun j _ => by unfold mk3 d3; congr 3) h.lw c1 c2 c3, fun j _ _ => ⟨rfl, rfl, rfl⟩⟩, rfl, rfl, rfl, g1, g2, g3⟩
theorem EO.bl (h : EO WA W f A1 A2 A3' q1 q2 q3 B b1 b2 b3 n1 n2 n3 i) : Below WA.heap.size WA W := by
  obtain ⟨X1, X2, X3, h1, -⟩ := h.ex
  exact h1.bl
theorem EO.below (h : EO WA W f A1 A2 A3' q1 q2 q3 B b1 b2 b3 n1 n2 n3 i) (hb : Below W.heap.size W W') : EO WA W' f A1 A2 A3' q1 q2 q3 B b1 b2 b3 n1 n2 n3 i := by
  obtain ⟨X1, X2, X3, h1, h2⟩ := h.ex
  exact ⟨⟨X1, X2, X3, h1.below hb, h2⟩, h.e1, h.e2, h.e3, h.g1, h.g2, h.g3⟩
theorem EI.below (h : EI WA W f A1 A2 A3' q1 q2 q3 B b1 b2 b3 n1 n2 n3 i k1 k2 k3 V1 V2 V3) (hb : Below W.heap.size W W') : EI WA W' f A1 A2 A3' q1 q2 q3 B b1 b2 b3 n1 n2 n3 i k1 k2 k3 V1 V2 V3 := by
  obtain ⟨X1, X2, X3, h1, h2⟩ := h.ex
  exact ⟨⟨X1, X2, X3, h1.below hb, h2⟩, h.e1, h.e2, h.e3, h.g1, h.g2, h.g3⟩
theorem ES.hat {mk3 : Nat → Value} {X1 X2 X3 : Nat → Value} (h : ES WA W f mk3 A1 A2 A3' q1 q2 q3 B b1 b2 b3 i k1 k2 k3 X1 X2 X3) {j : Nat} (hj : j < 3) : W.cell? ⟨WA.heap.size, j * 5 + 2, none⟩ = some (.slice (A1 j) f.td.length (q1 j)) ∧ W.cell? ⟨WA.heap.size, j * 5 + 3, none⟩ = some (.slice (A2 j) f.wr.length (q2 j)) ∧ W.cell? ⟨WA.heap.size, j * 5 + 4, none⟩ = some (.slice (A3' j) f.lk.length (q3 j)) := by
  obtain ⟨cs, hc, hsz, hcs⟩ := h.hd
  obtain ⟨-, -, c2, c3, c4⟩ := hcs j hj
  exact ⟨by rw [cell_of_row _ _ _ _ _ _ hc]; exact c2, by rw [cell_of_row _ _ _ _ _ _ hc]; exact c3, by rw [cell_of_row _ _ _ _ _ _ hc]; exact c4⟩
theorem EO.at_ (h : EO WA W f A1 A2 A3' q1 q2 q3 B b1 b2 b3 n1 n2 n3 i) {j : Nat} (hj : j < 3) : W.cell? ⟨WA.heap.size, j * 5 + 2, none⟩ = some (.slice (A1 j) n1 (q1 j)) ∧ W.cell? ⟨WA.heap.size, j * 5 + 3, none⟩ = some (.slice (A2 j) n2 (q2 j)) ∧ W.cell? ⟨WA.heap.size, j * 5 + 4, none⟩ = some (.slice (A3' j) n3 (q3 j)) := by
  obtain ⟨X1, X2, X3, h1, -⟩ := h.ex
  rw [← h.e1, ← h.e2, ← h.e3]
  exact h1.hat hj
theorem EO.ei (h : EO WA W f A1 A2 A3' q1 q2 q3 B b1 b2 b3 n1 n2 n3 i) (hi : i < 3) : EI WA W f A1 A2 A3' q1 q2 q3 B b1 b2 b3 n1 n2 n3 i 0 0 0 (.slice (A1 i) n1 (q1 i)) (.slice (A2 i) n2 (q2 i)) (.slice (A3' i) n3 (q3 i)) := by
  obtain ⟨X1, X2, X3, h1, h2⟩ := h.ex
  obtain ⟨x1, x2, x3⟩ := h2 i (Nat.le_refl _) hi
  exact ⟨⟨X1, X2, X3, h1, x1, x2, x3, fun j hj hj3 => h2 j (Nat.le_of_lt hj) hj3⟩, h.e1, h.e2, h.e3, h.g1, h.g2, h.g3⟩
theorem EI.row1 (h : EI WA W f A1 A2 A3' q1 q2 q3 B b1 b2 b3 n1 n2 n3 i k1 k2 k3 V1 V2 V3) (hi : i < 3) : ∃ cs, W.ownsRow B 29 3 V1 (n1 + k1) cs ∧ ∀ p, p < n1 + k1 → cs[p * 3]? = some (mz (brs i p n1)) := by
  obtain ⟨X1, X2, X3, h1, x1, x2, x3, h2⟩ := h.ex
  rw [← h.e1, ← x1]
  exact h1.x1 hi
theorem EI.row2 (h : EI WA W f A1 A2 A3' q1 q2 q3 B b1 b2 b3 n1 n2 n3 i k1 k2 k3 V1 V2 V3) (hi : i < 3) : ∃ cs, W.ownsRow B 45 4 V2 (n2 + k2) cs ∧ ∀ p, p < n2 + k2 → cs[p * 4 + 1]? = some (mz (brs i p n2)) := by
  obtain ⟨X1, X2, X3, h1, x1, x2, x3, h2⟩ := h.ex
  rw [← h.e2, ← x2]
  exact h1.x2 hi
theorem EI.row3 (h : EI WA W f A1 A2 A3' q1 q2 q3 B b1 b2 b3 n1 n2 n3 i k1 k2 k3 V1 V2 V3) (hi : i < 3) : ∃ cs, W.ownsRow B 55 2 V3 (n3 + k3) cs ∧ ∀ p, p < n3 + k3 → cs[p * 2]? = some (mk3 (brs i p n3)) := by
  obtain ⟨X1, X2, X3, h1, x1, x2, x3, h2⟩ := h.ex
  rw [← h.e3, ← x3]
  exact h1.x3 hi
theorem EI.bw (h : EI WA W f A1 A2 A3' q1 q2 q3 B b1 b2 b3 n1 n2 n3 i k1 k2 k3 V1 V2 V3) : B ≤ W.heap.size := by
  obtain ⟨X1, X2, X3, h1, -⟩ := h.ex
  exact h1.BW
theorem EI.app1 (h : EI WA W f A1 A2 A3' q1 q2 q3 B b1 b2 b3 n1 n2 n3 i k1 k2 k3 V1 V2 V3) (hi : i < 3) {cs ys : List Value} {ao : Option Addr} {cap : Nat} (hcs : W.ownsRow B 29 3 V1 (n1 + k1) cs) (hv : ∀ p, p < n1 + k1 → cs[p * 3]? = some (mz (brs i p n1)))
    (hown : W'.ownsRow B 29 3 (.slice ao (n1 + k1 + 1) cap) (n1 + k1 + 1) (cs ++ ys)) (hg : Grw W W' V1 (.slice ao (n1 + k1 + 1) cap)) (hy : ys[0]? = some (mz (100 + i))) :
    EI WA W' f A1 A2 A3' q1 q2 q3 B b1 b2 b3 n1 n2 n3 i (k1 + 1) k2 k3 (.slice ao (n1 + k1 + 1) cap) V2 V3 := by
  obtain ⟨X1, X2, X3, h1, x1, x2, x3, h2⟩ := h.ex
  have e1 := h.e1
  subst e1 x1
  refine ⟨⟨_, X2, X3, h1.app1 hi hcs hv hown hy hg, upd_self _ _ _, x2, x3, fun j hj hj3 => ?_⟩, rfl, h.e2, h.e3, h.g1, h.g2, h.g3⟩
  rw [upd_ne _ _ (by omega)]
  exact h2 j hj hj3
theorem EI.app2 (h : EI WA W f A1 A2 A3' q1 q2 q3 B b1 b2 b3 n1 n2 n3 i k1 k2 k3 V1 V2 V3) (hi : i < 3) {cs ys : List Value} {ao : Option Addr} {cap : Nat} (hcs : W.ownsRow B 45 4 V2 (n2 + k2) cs) (hv : ∀ p, p < n2 + k2 → cs[p * 4 + 1]? = some (mz (brs i p n2)))
    (hown : W'.ownsRow B 45 4 (.slice ao (n2 + k2 + 1) cap) (n2 + k2 + 1) (cs ++ ys)) (hg : Grw W W' V2 (.slice ao (n2 + k2 + 1) cap)) (hy : ys[1]? = some (mz (100 + i))) :
    EI WA W' f A1 A2 A3' q1 q2 q3 B b1 b2 b3 n1 n2 n3 i k1 (k2 + 1) k3 V1 (.slice ao (n2 + k2 + 1) cap) V3 := by
  obtain ⟨X1, X2, X3, h1, x1, x2, x3, h2⟩ := h.ex
  have e2 := h.e2
  subst e2 x2
  refine ⟨⟨X1, _, X3, h1.app2 hi hcs hv hown hy hg, x1, upd_self _ _ _, x3, fun j hj hj3 => ?_⟩, h.e1, rfl, h.e3, h.g1, h.g2, h.g3⟩
  rw [upd_ne _ _ (by omega)]
  exact h2 j hj hj3
theorem EI.app3 (h : EI WA W f A1 A2 A3' q1 q2 q3 B b1 b2 b3 n1 n2 n3 i k1 k2 k3 V1 V2 V3) (hi : i < 3) {cs ys : List Value} {ao : Option Addr} {cap : Nat} (hcs : W.ownsRow B 55 2 V3 (n3 + k3) cs) (hv : ∀ p, p < n3 + k3 → cs[p * 2]? = some (mk3 (brs i p n3)))
    (hown : W'.ownsRow B 55 2 (.slice ao (n3 + k3 + 1) cap) (n3 + k3 + 1) (cs ++ ys)) (hg : Grw W W' V3 (.slice ao (n3 + k3 + 1) cap)) (hy : ys[0]? = some (mk3 (100 + i))) :
    EI WA W' f A1 A2 A3' q1 q2 q3 B b1 b2 b3 n1 n2 n3 i k1 k2 (k3 + 1) V1 V2 (.slice ao (n3 + k3 + 1) cap) := by
  obtain ⟨X1, X2, X3, h1, x1, x2, x3, h2⟩ := h.ex
  have e3 := h.e3
  subst e3 x3
  refine ⟨⟨X1, X2, _, h1.app3 hi hcs hv hown hy hg, x1, x2, upd_self _ _ _, fun j hj hj3 => ?_⟩, h.e1, h.e2, rfl, h.g1, h.g2, h.g3⟩
  rw [upd_ne _ _ (by omega)]
  exact h2 j hj hj3
theorem EI.cells (h : EI WA W f A1 A2 A3' q1 q2 q3 B b1 b2 b3 n1 n2 n3 i k1 k2 k3 V1 V2 V3) (hi : i < 3) : ((∃ u, W.cell? ⟨b1, i, none⟩ = some u) ∧ W.frozen? ⟨b1, i, none⟩ = false) ∧ ((∃ u, W.cell? ⟨b2, i, none⟩ = some u) ∧ W.frozen? ⟨b2, i, none⟩ = false) ∧ ((∃ u, W.cell? ⟨b3, i, none⟩ = some u) ∧ W.frozen? ⟨b3, i, none⟩ = false) ∧ b1 ≠ b2 ∧ b1 ≠ b3 ∧ b2 ≠ b3 := by
  obtain ⟨X1, X2, X3, h1, -⟩ := h.ex
  exact ⟨h1.t1.cell hi, h1.t2.cell hi, h1.t3.cell hi, h1.t1.ne h1.t2 (by decide), h1.t1.ne h1.t3 (by decide), h1.t2.ne h1.t3 (by decide)⟩
theorem EI.next (h : EI WA W f A1 A2 A3' q1 q2 q3 B b1 b2 b3 n1 n2 n3 i 40 40 40 V1 V2 V3) (hi : i < 3) : EO WA (((W.setCell ⟨b1, i, none⟩ V1).setCell ⟨b2, i, none⟩ V2).setCell ⟨b3, i, none⟩ V3) f A1 A2 A3' q1 q2 q3 B b1 b2 b3 n1 n2 n3 (i + 1) := by
  obtain ⟨X1, X2, X3, h1, x1, x2, x3, h2⟩ := h.ex
  subst x1 x2 x3
  exact ⟨⟨X1, X2, X3, h1.next hi h.g1 h.g2 h.g3, fun j hj hj3 => h2 j (by omega) hj3⟩, h.e1, h.e2, h.e3, h.g1, h.g2, h.g3⟩
theorem EO.look1 (h : EO WA W f A1 A2 A3' q1 q2 q3 B b1 b2 b3 n1 n2 n3 3) (hi : i < 3) : ∃ g cap, n1 + 40 ≤ cap ∧ cap ≤ maxLen ∧ ∀ W', Below W.heap.size W W' → W'.cell? ⟨b1, i, none⟩ = some (.slice (some ⟨g, 0, none⟩) (n1 + 40) cap) ∧ W'.cell? ⟨WA.heap.size, i * 5 + 2, none⟩ = some (.slice (A1 i) n1 (q1 i)) ∧
    (∀ k, k < n1 + 40 → W'.cell? ⟨g, k * 3, none⟩ = some (.int .i64 ((brs i k n1 : Nat) : Int))) ∧ ∀ k, k < n1 → ∃ o, A1 i = some ⟨o, 0, none⟩ ∧ W'.cell? ⟨o, k * 3, none⟩ = some (.int .i64 (10 + (i : Int))) := by
  obtain ⟨X1, X2, X3, h1, -⟩ := h.ex
  have e1 := h.e1
  subst e1
  obtain ⟨lab, hp⟩ := h1.p1
  obtain ⟨cs, ho, hv⟩ := hp.row i hi
  rw [lnf_end hi] at ho hv
  have hsh := ho
  rcases hsh.2 with ⟨_, e⟩ | ⟨g, cap, cur, e, hb, hg, hn, hm, -, -⟩
  · omega
  refine ⟨g, cap, hn, hm, fun W' hb' => ?_⟩
  have h1' := h1.below hb'
  refine ⟨by rw [← e]; exact h1'.t1.at_ hi, (h1'.hat hi).1, fun k hk => ?_, fun k hk => ?_⟩
  · have hc := ho.cells (g := g) (by rw [e]; rfl) _ _ (hv k hk)
    rw [add_lit, Nat.zero_add] at hc
    exact (hb'.cell (World.block_lt_of_cell? _ _ hc)).trans hc
  · obtain ⟨o, h3, -, -, -, h4⟩ := hp.old i hi k hk
    injection h3 with h3
    exact ⟨o, h3, (hb'.cell (World.block_lt_of_cell? _ _ h4)).trans h4⟩
theorem EO.look2 (h : EO WA W f A1 A2 A3' q1 q2 q3 B b1 b2 b3 n1 n2 n3 3) (hi : i < 3) : ∃ g cap, n2 + 40 ≤ cap ∧ cap ≤ maxLen ∧ ∀ W', Below W.heap.size W W' → W'.cell? ⟨b2, i, none⟩ = some (.slice (some ⟨g, 0, none⟩) (n2 + 40) cap) ∧ W'.cell? ⟨WA.heap.size, i * 5 + 3, none⟩ = some (.slice (A2 i) n2 (q2 i)) ∧
    (∀ k, k < n2 + 40 → W'.cell? ⟨g, k * 4 + 1, none⟩ = some (.int .i64 ((brs i k n2 : Nat) : Int))) ∧ ∀ k, k < n2 → ∃ o, A2 i = some ⟨o, 0, none⟩ ∧ W'.cell? ⟨o, k * 4 + 1, none⟩ = some (.int .i64 (10 + (i : Int))) := by
  obtain ⟨X1, X2, X3, h1, -⟩ := h.ex
  have e2 := h.e2
  subst e2
  obtain ⟨lab, hp⟩ := h1.p2
  obtain ⟨cs, ho, hv⟩ := hp.row i hi
  rw [lnf_end hi] at ho hv
  have hsh := ho
  rcases hsh.2 with ⟨_, e⟩ | ⟨g, cap, cur, e, hb, hg, hn, hm, -, -⟩
  · omega
  refine ⟨g, cap, hn, hm, fun W' hb' => ?_⟩
  have h1' := h1.below hb'
  refine ⟨by rw [← e]; exact h1'.t2.at_ hi, (h1'.hat hi).2.1, fun k hk => ?_, fun k hk => ?_⟩
  · have hc := ho.cells (g := g) (by rw [e]; rfl) _ _ (hv k hk)
    rw [add_lit, Nat.zero_add] at hc
    exact (hb'.cell (World.block_lt_of_cell? _ _ hc)).trans hc
  · obtain ⟨o, h3, -, -, -, h4⟩ := hp.old i hi k hk
    injection h3 with h3
    exact ⟨o, h3, (hb'.cell (World.block_lt_of_cell? _ _ h4)).trans h4⟩
theorem EO.look3 (h : EO WA W f A1 A2 A3' q1 q2 q3 B b1 b2 b3 n1 n2 n3 3) (hi : i < 3) : ∃ g cap, n3 + 40 ≤ cap ∧ cap ≤ maxLen ∧ ∀ W', Below W.heap.size W W' → W'.cell? ⟨b3, i, none⟩ = some (.slice (some ⟨g, 0, none⟩) (n3 + 40) cap) ∧ W'.cell? ⟨WA.heap.size, i * 5 + 4, none⟩ = some (.slice (A3' i) n3 (q3 i)) ∧
    (∀ k, k < n3 + 40 → W'.cell? ⟨g, k * 2, none⟩ = some (Value.string (mkStr [((brs i k n3 : Nat) : Int)]))) ∧ ∀ k, k < n3 → ∃ o, A3' i = some ⟨o, 0, none⟩ ∧ W'.cell? ⟨o, k * 2, none⟩ = some (Value.string (mkStr [10 + (i : Int)])) := by
  obtain ⟨X1, X2, X3, h1, -⟩ := h.ex
  have e3 := h.e3
  subst e3
  obtain ⟨lab, hp⟩ := h1.p3
  obtain ⟨cs, ho, hv⟩ := hp.row i hi
  rw [lnf_end hi] at ho hv
  have hsh := ho
  rcases hsh.2 with ⟨_, e⟩ | ⟨g, cap, cur, e, hb, hg, hn, hm, -, -⟩
  · omega
  refine ⟨g, cap, hn, hm, fun W' hb' => ?_⟩
  have h1' := h1.below hb'
  refine ⟨by rw [← e]; exact h1'.t3.at_ hi, (h1'.hat hi).2.2, fun k hk => ?_, fun k hk => ?_⟩
  · have hc := ho.cells (g := g) (by rw [e]; rfl) _ _ (hv k hk)
    rw [add_lit, Nat.zero_add] at hc
    exact (hb'.cell (World.block_lt_of_cell? _ _ hc)).trans hc
  · obtain ⟨o, h3, -, -, -, h4⟩ := hp.old i hi k hk
    injection h3 with h3
    exact ⟨o, h3, (hb'.cell (World.block_lt_of_cell? _ _ h4)).trans h4⟩
end
end Go.Proofs.YthcoigbkdbkojabGreat
