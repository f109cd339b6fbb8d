import Derived.Test.YthcoigbkdbkojabGreatK42
namespace Go.Proofs.YthcoigbkdbkojabGreat
open Go.RowKit Go.MapKept
open V (hp_new hp_lt hp_below hp_alloc kl)
def mi (x : Int) : Value := .int .i64 x
def ms (x : ByteArray) : Value := .string x
section
variable {W W' : World} {B H : Nat} {e e' : TypeId} {s c : Nat} {α : Type} {mk : α → Value} {v : Value} {n K : Nat} {m : Nat → α} {V : Nat → Value} {L : Nat → Nat} {M : Nat → Nat → α}
theorem Lo.keptTy (h : Lo W B H e s c mk v n m) {g : Nat} (hk : Kept (fun j => j = g) W W') {cur : Array Value} (hg : W.heap[g]? = some (.cells cur e' (0, 0))) (hne : e ≠ e') : Lo W' B H e s c mk v n m := by
  obtain ⟨cs, h1, h2, h3, h4⟩ := h
  refine ⟨cs, ownsRow_kept h1 hk (fun q hq e2 => ?_), h2, h3, h4⟩
  obtain ⟨c2, g2⟩ := owns_ty h1 hq
  subst e2
  rw [hg] at g2
  injection g2 with g2
  injection g2 with _ g2
  exact hne g2.symm
theorem Fa.keptTy (h : Fa W e s c mk n K V L M) {g : Nat} (hk : Kept (fun j => j = g) W W') {cur : Array Value} (hg : W.heap[g]? = some (.cells cur e' (0, 0))) (hne : e ≠ e') : Fa W' e s c mk n K V L M :=
  ⟨fun i hi => (h.li i hi).keptTy hk hg hne, h.up⟩
end
structure MF (WA W : World) (f : Ef) (A1 A2 A3 : Nat → Option Addr) (q1 q2 q3 : Nat → Nat) (L : Nat → Nat) (m1 m2 : Nat → Nat → Int) (m3 : Nat → Nat → ByteArray) : Prop where
  bl : Below WA.heap.size WA W
  hd : ∃ cs, W.heap[WA.heap.size]? = some (.cells cs 51 (0, 0)) ∧ cs.size = 15 ∧ ∀ j, j < 3 → cs[j * 5]? = some (.int .i64 f.st) ∧ cs[j * 5 + 1]? = some (.int .i64 f.at_) ∧ cs[j * 5 + 2]? = some (.slice (A1 j) f.td.length (q1 j)) ∧ cs[j * 5 + 3]? = some (.slice (A2 j) f.wr.length (q2 j)) ∧ cs[j * 5 + 4]? = some (.slice (A3 j) f.lk.length (q3 j))
  f1 : Fa W 29 3 0 mi f.td.length 3 (fun j => .slice (A1 j) f.td.length (q1 j)) L m1
  f2 : Fa W 45 4 1 mi f.wr.length 3 (fun j => .slice (A2 j) f.wr.length (q2 j)) L m2
  f3 : Fa W 55 2 0 ms f.lk.length 3 (fun j => .slice (A3 j) f.lk.length (q3 j)) L m3
  l0 : WA.heap.size < L 0
theorem flat_mk {β γ : Type} (fl : β → List Value) (s c : Nat) (hf : ∀ x, (fl x).length = s) (hc : c < s) (mk : γ → Value) (g : β → γ) (hg : ∀ x, (fl x)[c]? = some (mk (g x))) (d : γ) (xs : List β) (p : Nat) (hp : p < xs.length) : (xs.flatMap fl)[p * s + c]? = some (mk ((xs[p]?).elim d g)) := by
  rw [flat_get fl s hf xs p c hc, List.getElem?_eq_getElem hp]
  exact hg _
theorem OF.mf {WA W : World} {f : Ef} {A1 A2 A3 : Nat → Option Addr} {q1 q2 q3 L : Nat → Nat} (h : OF WA W f 3 A1 A2 A3 q1 q2 q3 L) : ∃ m1 m2 m3, MF WA W f A1 A2 A3 q1 q2 q3 L m1 m2 m3 :=
  ⟨fun _ p => (f.td[p]?).elim 0 (fun x => x.k), fun _ p => (f.wr[p]?).elim 0 (fun x => x.2.k), fun _ p => (f.lk[p]?).elim emp (fun x => x.1), h.bl, h.hd,
    ⟨fun i hi => ⟨_, (h.r1 i hi).1, (h.r1 i hi).2, vcs_one _, fun p hp => flat_mk vcs 3 0 (fun _ => rfl) (by omega) mi (fun x : Vd => x.k) (fun _ => rfl) 0 f.td p hp⟩, h.up⟩,
    ⟨fun i hi => ⟨_, (h.r2 i hi).1, (h.r2 i hi).2, ecs_one _, fun p hp => flat_mk ecs 4 1 (fun _ => rfl) (by omega) mi (fun x : ByteArray × Vd => x.2.k) (fun _ => rfl) 0 f.wr p hp⟩, h.up⟩,
    ⟨fun i hi => ⟨_, (h.r3 i hi).1, (h.r3 i hi).2, lcs_one _, fun p hp => flat_mk lcs 2 0 (fun _ => rfl) (by omega) ms (fun x : ByteArray × ByteArray => x.1) (fun _ => rfl) emp f.lk p hp⟩, h.up⟩,
    h.l0⟩
section
variable {WA W W' : World} {f : Ef} {A1 A2 A3 : Nat → Option Addr} {q1 q2 q3 L : Nat → Nat} {m1 m2 : Nat → Nat → Int} {m3 : Nat → Nat → ByteArray}
theorem MF.below (h : MF WA W f A1 A2 A3 q1 q2 q3 L m1 m2 m3) (hb : Below W.heap.size W W') : MF WA W' f A1 A2 A3 q1 q2 q3 L m1 m2 m3 := by
  obtain ⟨cs, hc, hr⟩ := h.hd
  exact ⟨below_on h.bl hb, ⟨cs, blk_of hb hc (hp_lt hc), hr⟩, h.f1.below hb, h.f2.below hb, h.f3.below hb, h.l0⟩
theorem MF.at_ (h : MF WA W f A1 A2 A3 q1 q2 q3 L m1 m2 m3) {j : Nat} (hj : j < 3) : W.cell? ⟨WA.heap.size, j * 5, none⟩ = some (.int .i64 f.st) ∧ W.cell? ⟨WA.heap.size, j * 5 + 1, none⟩ = some (.int .i64 f.at_) ∧ W.cell? ⟨WA.heap.size, j * 5 + 2, none⟩ = some (.slice (A1 j) f.td.length (q1 j)) ∧ W.cell? ⟨WA.heap.size, j * 5 + 3, none⟩ = some (.slice (A2 j) f.wr.length (q2 j)) ∧ W.cell? ⟨WA.heap.size, j * 5 + 4, none⟩ = some (.slice (A3 j) f.lk.length (q3 j)) := by
  obtain ⟨cs, hc, hsz, hcs⟩ := h.hd
  obtain ⟨c0, c1, c2, c3, c4⟩ := hcs j hj
  exact ⟨by rw [cell_of_row _ _ _ _ _ _ hc]; exact c0, by rw [cell_of_row _ _ _ _ _ _ hc]; exact c1, by rw [cell_of_row _ _ _ _ _ _ hc]; exact c2, by rw [cell_of_row _ _ _ _ _ _ hc]; exact c3, by rw [cell_of_row _ _ _ _ _ _ hc]; exact c4⟩
theorem MF.hdr (h : MF WA W f A1 A2 A3 q1 q2 q3 L m1 m2 m3) {g : Nat} (hg : L 0 ≤ g) (hk : Kept (fun j => j = g) W W') : Below WA.heap.size WA W' ∧ ∃ cs, W'.heap[WA.heap.size]? = some (.cells cs 51 (0, 0)) ∧ cs.size = 15 ∧ ∀ j, j < 3 → cs[j * 5]? = some (.int .i64 f.st) ∧ cs[j * 5 + 1]? = some (.int .i64 f.at_) ∧ cs[j * 5 + 2]? = some (.slice (A1 j) f.td.length (q1 j)) ∧ cs[j * 5 + 3]? = some (.slice (A2 j) f.wr.length (q2 j)) ∧ cs[j * 5 + 4]? = some (.slice (A3 j) f.lk.length (q3 j)) := by
  obtain ⟨cs, hc, hr⟩ := h.hd
  have hl := h.l0
  exact ⟨h.bl.trans (hk.below h.bl.size (fun k hk e => by omega)), cs, (hk.block _ (hp_lt hc) (by omega)).trans hc, hr⟩
theorem MF.set1 (h : MF WA W f A1 A2 A3 q1 q2 q3 L m1 m2 m3) {i k : Nat} (hi : i < 3) (hk : k < f.td.length) (x : Int) {u1 u2 : Value} (ho : u1.oneCell' = true ∧ u2.oneCell' = true) :
    ∃ g, A1 i = some ⟨g, 0, none⟩ ∧ MF WA (((W.setCell ⟨g, k * 3, none⟩ (.int .i64 x)).setCell ⟨g, k * 3 + 1, none⟩ u1).setCell ⟨g, k * 3 + 2, none⟩ u2) f A1 A2 A3 q1 q2 q3 L (upd m1 i (upd (m1 i) k x)) m2 m3 := by
  obtain ⟨g, cap, hv, -, -, hg1, hg2, -, -, -⟩ := (h.f1.li i hi).at_ hk
  obtain ⟨g', cap', hv', hl⟩ := (h.f1.li i hi).set3 hk x (u0 := .int .i64 x) (u1 := u1) (u2 := u2) rfl ⟨rfl, ho.1, ho.2⟩
  have e : g' = g := by
    rw [hv] at hv'
    injection hv' with e1
    injection e1 with e1
    injection e1 with e1
    exact e1.symm
  subst e
  have hA : A1 i = some ⟨g', 0, none⟩ := by injection hv
  have K : Kept (fun j => j = g') W (((W.setCell ⟨g', k * 3, none⟩ (.int .i64 x)).setCell ⟨g', k * 3 + 1, none⟩ u1).setCell ⟨g', k * 3 + 2, none⟩ u2) :=
    (((Kept.refl (fun q => q = g') W).setCell (p := ⟨g', k * 3, none⟩) (fun _ => rfl) _).setCell (p := ⟨g', k * 3 + 1, none⟩) (fun _ => rfl) _).setCell (p := ⟨g', k * 3 + 2, none⟩) (fun _ => rfl) _
  obtain ⟨cs, ho1, -⟩ := h.f1.li i hi
  obtain ⟨cur, hcur⟩ := owns_ty ho1 (k := g') (by rw [hA]; rfl)
  have h0 : L 0 ≤ g' := Nat.le_trans (h.f1.le i 0 (Nat.zero_le _) (by omega)) hg1
  obtain ⟨b1, b2⟩ := h.hdr h0 K
  exact ⟨g', hA, b1, b2, h.f1.put hi hv ⟨hg1, hg2⟩ K hl, h.f2.keptTy K hcur (by decide), h.f3.keptTy K hcur (by decide), h.l0⟩
theorem MF.set2 (h : MF WA W f A1 A2 A3 q1 q2 q3 L m1 m2 m3) {i k : Nat} (hi : i < 3) (hk : k < f.wr.length) (x : Int) {u0 u2 u3 : Value} (ho : u0.oneCell' = true ∧ u2.oneCell' = true ∧ u3.oneCell' = true) :
    ∃ g, A2 i = some ⟨g, 0, none⟩ ∧ MF WA ((((W.setCell ⟨g, k * 4, none⟩ u0).setCell ⟨g, k * 4 + 1, none⟩ (.int .i64 x)).setCell ⟨g, k * 4 + 2, none⟩ u2).setCell ⟨g, k * 4 + 3, none⟩ u3) f A1 A2 A3 q1 q2 q3 L m1 (upd m2 i (upd (m2 i) k x)) m3 := by
  obtain ⟨g, cap, hv, -, -, hg1, hg2, -, -, -⟩ := (h.f2.li i hi).at_ hk
  obtain ⟨g', cap', hv', hl⟩ := (h.f2.li i hi).set4 hk x (u0 := u0) (u1 := .int .i64 x) (u2 := u2) (u3 := u3) rfl ⟨ho.1, rfl, ho.2.1, ho.2.2⟩
  have e : g' = g := by
    rw [hv] at hv'
    injection hv' with e1
    injection e1 with e1
    injection e1 with e1
    exact e1.symm
  subst e
  have hA : A2 i = some ⟨g', 0, none⟩ := by injection hv
  have K : Kept (fun j => j = g') W ((((W.setCell ⟨g', k * 4, none⟩ u0).setCell ⟨g', k * 4 + 1, none⟩ (.int .i64 x)).setCell ⟨g', k * 4 + 2, none⟩ u2).setCell ⟨g', k * 4 + 3, none⟩ u3) :=
    ((((Kept.refl (fun q => q = g') W).setCell (p := ⟨g', k * 4, none⟩) (fun _ => rfl) _).setCell (p := ⟨g', k * 4 + 1, none⟩) (fun _ => rfl) _).setCell (p := ⟨g', k * 4 + 2, none⟩) (fun _ => rfl) _).setCell (p := ⟨g', k * 4 + 3, none⟩) (fun _ => rfl) _
  obtain ⟨cs, ho1, -⟩ := h.f2.li i hi
  obtain ⟨cur, hcur⟩ := owns_ty ho1 (k := g') (by rw [hA]; rfl)
  have h0 : L 0 ≤ g' := Nat.le_trans (h.f2.le i 0 (Nat.zero_le _) (by omega)) hg1
  obtain ⟨b1, b2⟩ := h.hdr h0 K
  exact ⟨g', hA, b1, b2, h.f1.keptTy K hcur (by decide), h.f2.put hi hv ⟨hg1, hg2⟩ K hl, h.f3.keptTy K hcur (by decide), h.l0⟩
theorem MF.set3 (h : MF WA W f A1 A2 A3 q1 q2 q3 L m1 m2 m3) {i k : Nat} (hi : i < 3) (hk : k < f.lk.length) (x : ByteArray) {u1 : Value} (ho : u1.oneCell' = true) :
    ∃ g, A3 i = some ⟨g, 0, none⟩ ∧ MF WA ((W.setCell ⟨g, k * 2, none⟩ (.string x)).setCell ⟨g, k * 2 + 1, none⟩ u1) f A1 A2 A3 q1 q2 q3 L m1 m2 (upd m3 i (upd (m3 i) k x)) := by
  obtain ⟨g, cap, hv, -, -, hg1, hg2, -, -, -⟩ := (h.f3.li i hi).at_ hk
  obtain ⟨g', cap', hv', hl⟩ := (h.f3.li i hi).set2 hk x (u0 := .string x) (u1 := u1) rfl ⟨rfl, ho⟩
  have e : g' = g := by
    rw [hv] at hv'
    injection hv' with e1
    injection e1 with e1
    injection e1 with e1
    exact e1.symm
  subst e
  have hA : A3 i = some ⟨g', 0, none⟩ := by injection hv
  have K : Kept (fun j => j = g') W ((W.setCell ⟨g', k * 2, none⟩ (.string x)).setCell ⟨g', k * 2 + 1, none⟩ u1) :=
    ((Kept.refl (fun q => q = g') W).setCell (p := ⟨g', k * 2, none⟩) (fun _ => rfl) _).setCell (p := ⟨g', k * 2 + 1, none⟩) (fun _ => rfl) _
  obtain ⟨cs, ho1, -⟩ := h.f3.li i hi
  obtain ⟨cur, hcur⟩ := owns_ty ho1 (k := g') (by rw [hA]; rfl)
  have h0 : L 0 ≤ g' := Nat.le_trans (h.f3.le i 0 (Nat.zero_le _) (by omega)) hg1
  obtain ⟨b1, b2⟩ := h.hdr h0 K
  exact ⟨g', hA, b1, b2, h.f1.keptTy K hcur (by decide), h.f2.keptTy K hcur (by decide), h.f3.put hi hv ⟨hg1, hg2⟩ K hl, h.l0⟩
end
theorem Lo.all {W : World} {B H : Nat} {e : TypeId} {s c : Nat} {α : Type} {mk : α → Value} {v : Value} {n : Nat} {m : Nat → α} (h : Lo W B H e s c mk v n m) {k : Nat} (hk : k < n) {g cap : Nat} (hv : v = .slice (some ⟨g, 0, none⟩) n cap) : ∀ o, o < s → ∃ u, W.cell? ⟨g, k * s + o, none⟩ = some u := by
  intro o ho
  obtain ⟨cs, h1, h2, h3, h4⟩ := h
  have hlt : k * s + o < cs.length := by
    rw [h1.1]
    calc k * s + o < k * s + s := by omega
      _ = (k + 1) * s := (Nat.succ_mul k s).symm
      _ ≤ n * s := Nat.mul_le_mul_right _ hk
  have hc := h1.cells (g := g) (by rw [hv]; rfl) _ _ (List.getElem?_eq_getElem hlt)
  rw [add_lit, Nat.zero_add] at hc
  exact ⟨_, hc⟩
def Mk {α : Type} (d : Nat → α) (i k n : Nat) (m : Nat → Nat → α) : Prop := ∀ j p, p < n → (j < i ∨ j = i ∧ p < k) → m j p = d j
theorem Mk.zero {α : Type} (d : Nat → α) (n : Nat) (m : Nat → Nat → α) : Mk d 0 0 n m := fun j p _ h => by omega
theorem Mk.next {α : Type} {d : Nat → α} {i n : Nat} {m : Nat → Nat → α} (h : Mk d i n n m) : Mk d (i + 1) 0 n m := fun j p hp hj => h j p hp (by omega)
theorem Mk.step {α : Type} {d : Nat → α} {i k n : Nat} {m : Nat → Nat → α} (h : Mk d i k n m) : Mk d i (k + 1) n (upd m i (upd (m i) k (d i))) := fun j p hp hj => by
  by_cases e : j = i
  · subst e
    rw [upd_self]
    by_cases e2 : p = k
    · subst e2; rw [upd_self]
    · rw [upd_ne _ _ e2]; exact h j p hp (by omega)
  · rw [upd_ne _ _ e]; exact h j p hp (by omega)
def brs (j p n : Nat) : Nat := if p < n then 10 + j else 100 + j
theorem brs_lt {j p n : Nat} (h : p < n) : brs j p n = 10 + j := if_pos h
theorem brs_ge {j p n : Nat} (h : n ≤ p) : brs j p n = 100 + j := if_neg (by omega)
structure Ap (W : World) (B : Nat) (e : TypeId) (s c : Nat) (mk : Nat → Value) (n : Nat) (lab : Nat → Nat) (V X : Nat → Value) (ln : Nat → Nat) : Prop where
  row : ∀ j, j < 3 → ∃ cs, W.ownsRow B e s (X j) (ln j) cs ∧ ∀ p, p < ln j → cs[p * s + c]? = some (mk (brs j p n))
  xl : ∀ j, j < 3 → ∀ b, (X j).ownBlock = some b → lab b = j
  old : ∀ j, j < 3 → ∀ p, p < n → ∃ g, V j = .slice (some ⟨g, 0, none⟩) n (match V j with | .slice _ _ q => q | _ => 0) ∧ B ≤ g ∧ lab g = j ∧ (∃ cur, W.heap[g]? = some (.cells cur e (0, 0))) ∧ W.cell? ⟨g, p * s + c, none⟩ = some (mk (10 + j))
  ge : ∀ j, j < 3 → n ≤ ln j
section
variable {W W' : World} {B : Nat} {e e' : TypeId} {s c : Nat} {mk : Nat → Value} {n : Nat} {lab : Nat → Nat} {V X : Nat → Value} {ln : Nat → Nat}
theorem Ap.kept {S : Nat → Prop} (h : Ap W B e s c mk n lab V X ln) (hk : Kept S W W') (hs : ∀ b, S b → b < W.heap.size → ∀ cur, W.heap[b]? ≠ some (.cells cur e (0, 0))) : Ap W' B e s c mk n lab V X ln := by
  refine ⟨fun j hj => ?_, h.xl, fun j hj p hp => ?_, h.ge⟩
  · obtain ⟨cs, h1, h2⟩ := h.row j hj
    refine ⟨cs, ownsRow_kept h1 hk (fun q hq e2 => ?_), h2⟩
    obtain ⟨cur, hcur⟩ := owns_ty h1 hq
    exact hs q e2 (hp_lt hcur) cur hcur
  · obtain ⟨g, h1, h2, h3, ⟨cur, h4⟩, h5⟩ := h.old j hj p hp
    have hn : ¬ S g := fun e2 => hs g e2 (hp_lt h4) cur h4
    exact ⟨g, h1, h2, h3, ⟨cur, (hk.block g (hp_lt h4) hn).trans h4⟩, hk.cell h5 hn⟩
theorem Ap.below (h : Ap W B e s c mk n lab V X ln) (hb : Below W.heap.size W W') : Ap W' B e s c mk n lab V X ln := h.kept (Kept.ofBelow hb) (fun _ h => h.elim)
theorem Ap.other (h : Ap W B e s c mk n lab V X ln) {v : Value} {B' s' l : Nat} {xs : List Value} (ho : W.ownsRow B' e' s' v l xs) (hne : e' ≠ e) {row : Option Nat} (hr : row = v.ownBlock ∨ row = none) (hg : W.grownBy W' row) : Ap W' B e s c mk n lab V X ln := by
  refine h.kept (S := fun k => row = some k) ((Kept.refl _ W).grown hg (fun k _ h => h)) (fun b hb _ cur hc => ?_)
  rcases hr with hr | hr
  · obtain ⟨c2, h2⟩ := owns_ty ho (hr.symm.trans hb)
    rw [h2] at hc
    injection hc with hc
    injection hc with _ hc
    exact hne hc
  · rw [hr] at hb; cases hb
theorem Ap.app (h : Ap W B e s c mk n lab V X ln) (hc : c < s) {i : Nat} (hi : i < 3) {cs ys : List Value} (_hB : B ≤ W.heap.size) {ao : Option Addr} {cap : Nat} (hcs : W.ownsRow B e s (X i) (ln i) cs) (hv : ∀ p, p < ln i → cs[p * s + c]? = some (mk (brs i p n)))
    (hown : W'.ownsRow B e s (.slice ao (ln i + 1) cap) (ln i + 1) (cs ++ ys)) (hy : ys[c]? = some (mk (100 + i)))
    (hg : (Value.slice ao (ln i + 1) cap).ownBlock = (X i).ownBlock ∧ (X i).ownBlock ≠ none ∧ W.grownBy W' (X i).ownBlock ∨ W.heap.size ≤ ((Value.slice ao (ln i + 1) cap).ownBlock.getD W.heap.size) ∧ W.grownBy W' none) :
    ∃ lab', Ap W' B e s c mk n lab' V (upd X i (.slice ao (ln i + 1) cap)) (upd ln i (ln i + 1)) := by
  have hn := h.ge i hi
  have hlen : cs.length = ln i * s := hcs.1
  have hnew : ∀ p, p < ln i + 1 → (cs ++ ys)[p * s + c]? = some (mk (brs i p n)) := fun p hp => by
    by_cases e2 : p = ln i
    · subst e2
      rw [List.getElem?_append_right (by omega), hlen, show ln i * s + c - ln i * s = c by omega, hy, brs_ge hn]
    · have : p * s + c < cs.length := by
        rw [hlen]
        calc p * s + c < p * s + s := by omega
          _ = (p + 1) * s := (Nat.succ_mul p s).symm
          _ ≤ ln i * s := Nat.mul_le_mul_right _ (by omega)
      rw [List.getElem?_append_left this]
      exact hv p (by omega)
  rcases hg with ⟨e1, e2, hg⟩ | ⟨e1, hg⟩
  · have hk : Kept (fun k => (X i).ownBlock = some k) W W' := (Kept.refl _ W).grown hg (fun k _ h => h)
    refine ⟨lab, fun j hj => ?_, fun j hj b hb => ?_, fun j hj p hp => ?_, fun j hj => ?_⟩
    · by_cases e3 : j = i
      · subst e3; rw [upd_self, upd_self]; exact ⟨_, hown, hnew⟩
      · rw [upd_ne _ _ e3, upd_ne _ _ e3]
        obtain ⟨cs', h1, h2⟩ := h.row j hj
        exact ⟨cs', ownsRow_kept h1 hk (fun q hq h3 => e3 (by rw [← h.xl j hj q hq, h.xl i hi q h3])), h2⟩
    · by_cases e3 : j = i
      · subst e3; rw [upd_self] at hb; exact h.xl j hj b (e1.symm.trans hb)
      · rw [upd_ne _ _ e3] at hb; exact h.xl j hj b hb
    · obtain ⟨g, h1, h2, h3, ⟨cur, h4⟩, h5⟩ := h.old j hj p hp
      refine ⟨g, h1, h2, h3, ?_⟩
      by_cases e4 : (X i).ownBlock = some g
      · have e3 : j = i := by rw [← h3, h.xl i hi g e4]
        subst e3
        obtain ⟨c2, hc2⟩ := owns_ty hown (e1.trans e4)
        refine ⟨⟨c2, hc2⟩, ?_⟩
        have h6 := hown.cells (g := g) (e1.trans e4) _ _ (hnew p (by omega))
        rw [add_lit, Nat.zero_add, brs_lt hp] at h6
        exact h6
      · exact ⟨⟨cur, (hk.block g (hp_lt h4) e4).trans h4⟩, hk.cell h5 e4⟩
    · by_cases e3 : j = i
      · subst e3; rw [upd_self]; omega
      · rw [upd_ne _ _ e3]; exact h.ge j hj
  · have hk : Kept (fun _ => False) W W' := (Kept.refl _ W).grown hg (fun k _ h => by cases h)
    have hfr : ∀ b, (Value.slice ao (ln i + 1) cap).ownBlock = some b → W.heap.size ≤ b := fun b hb => by rw [hb] at e1; exact e1
    obtain ⟨nb, hnb⟩ : ∃ nb, (Value.slice ao (ln i + 1) cap).ownBlock = some nb := by
      rcases hown.2 with ⟨_, e3⟩ | ⟨g, _, _, e3, _⟩
      · omega
      · rw [e3]; exact ⟨g, rfl⟩
    have hge := hfr nb hnb
    refine ⟨upd lab nb i, fun j hj => ?_, fun j hj b hb => ?_, fun j hj p hp => ?_, fun j hj => ?_⟩
    · by_cases e3 : j = i
      · subst e3; rw [upd_self, upd_self]; exact ⟨_, hown, hnew⟩
      · rw [upd_ne _ _ e3, upd_ne _ _ e3]
        obtain ⟨cs', h1, h2⟩ := h.row j hj
        exact ⟨cs', ownsRow_kept h1 hk (fun q hq h3 => h3), h2⟩
    · by_cases e3 : j = i
      · subst e3; rw [upd_self, hnb] at hb; injection hb with hb; rw [← hb, upd_self]
      · rw [upd_ne _ _ e3] at hb
        obtain ⟨cs', h1, h2⟩ := h.row j hj
        have := (h1.lt b hb).2
        rw [upd_ne _ _ (by omega)]; exact h.xl j hj b hb
    · obtain ⟨g, h1, h2, h3, ⟨cur, h4⟩, h5⟩ := h.old j hj p hp
      have := hp_lt h4
      exact ⟨g, h1, h2, by rw [upd_ne _ _ (by omega)]; exact h3, ⟨cur, (hk.block g (hp_lt h4) (fun h => h)).trans h4⟩, hk.cell h5 (fun h => h)⟩
    · by_cases e3 : j = i
      · subst e3; rw [upd_self]; omega
      · rw [upd_ne _ _ e3]; exact h.ge j hj
end
theorem Fa.ap {W : World} {e : TypeId} {s c : Nat} {α : Type} {mk : α → Value} {n : Nat} {A : Nat → Option Addr} {q : Nat → Nat} {L : Nat → Nat} {m : Nat → Nat → α} {d : Nat → α} (h : Fa W e s c mk n 3 (fun j => .slice (A j) n (q j)) L m) (hm : Mk d 3 0 n m) (mk' : Nat → Value) (hd : ∀ j, j < 3 → mk (d j) = mk' (10 + j)) :
    ∃ lab, Ap W (L 0) e s c mk' n lab (fun j => .slice (A j) n (q j)) (fun j => .slice (A j) n (q j)) (fun _ => n) := by
  have hlab : ∀ j, j < 3 → ∀ b : Nat, L j ≤ b → b < L (j + 1) → (if b < L 1 then 0 else if b < L 2 then 1 else 2) = j := fun j hj b h1 h2 => by
    have u0 := h.up 0 (by omega)
    have u1 := h.up 1 (by omega)
    have u2 := h.up 2 (by omega)
    rcases (by omega : j = 0 ∨ j = 1 ∨ j = 2) with rfl | rfl | rfl
    · rw [if_pos h2]
    · rw [if_neg (by omega), if_pos h2]
    · have e12 : L (1 + 1) = L 2 := rfl
      have e01 : L (0 + 1) = L 1 := rfl
      rw [if_neg (by omega), if_neg (by omega)]
  refine ⟨fun b => if b < L 1 then 0 else if b < L 2 then 1 else 2, fun j hj => ?_, fun j hj b hb => ?_, fun j hj p hp => ?_, fun _ _ => Nat.le_refl _⟩
  · obtain ⟨cs, h1, h2, h3, h4⟩ := h.li j hj
    exact ⟨cs, owns_mono h1 (h.le j 0 (Nat.zero_le _) (by omega)), fun p hp => by rw [h4 p hp, hm j p hp (.inl hj), hd j hj, brs_lt hp]⟩
  · obtain ⟨cs, h1, h2, h3, h4⟩ := h.li j hj
    exact hlab j hj b (h1.lt b hb).1 (h2 b hb)
  · obtain ⟨cs, ho, -⟩ := h.li j hj
    obtain ⟨g, cap, hv, -, -, hg1, hg2, hg3, hc, -⟩ := (h.li j hj).at_ hp
    injection hv with e1 _ e2
    rw [hm j p hp (.inl hj), hd j hj] at hc
    exact ⟨g, by rw [e1], Nat.le_trans (h.le j 0 (Nat.zero_le _) (by omega)) hg1, hlab j hj g hg1 hg2, owns_ty ho (by rw [e1]; rfl), hc⟩
def lnf (i k n j : Nat) : Nat := if j < i then n + 40 else if j = i then n + k else n
theorem lnf_at (i k n : Nat) : lnf i k n i = n + k := by simp [lnf]
theorem lnf_step (i k n : Nat) : upd (lnf i k n) i (n + k + 1) = lnf i (k + 1) n := by
  funext j
  unfold upd lnf
  repeat' split
  all_goals omega
theorem lnf_next (i n : Nat) : lnf i 40 n = lnf (i + 1) 0 n := by
  funext j
  unfold lnf
  repeat' split
  all_goals omega
theorem lnf_zero (n : Nat) : lnf 0 0 n = fun _ => n := by
  funext j
  unfold lnf
  repeat' split
  all_goals omega
theorem lnf_end {j n : Nat} (h : j < 3) : lnf 3 0 n j = n + 40 := by simp [lnf, h]
def mz (x : Nat) : Value := .int .i64 (x : Int)
theorem blk_grown {W W' : World} {r B e s l : Nat} {v : Value} {xs : List Value} {cs : Array Value} {t : TypeId} (h : W.heap[r]? = some (.cells cs t (0, 0))) (ho : W.ownsRow B e s v l xs) (hne : t ≠ e) {row : Option Nat} (hr : row = v.ownBlock ∨ row = none) (hg : W.grownBy W' row) : W'.heap[r]? = some (.cells cs t (0, 0)) := by
  rw [hg.block r (hp_lt h) (fun e1 => ?_)]
  · exact h
  · rcases hr with hr | hr
    · obtain ⟨c2, h2⟩ := owns_ty ho (hr.symm.trans e1.symm)
      rw [h] at h2
      injection h2 with h2
      injection h2 with _ h2
      exact hne h2
    · rw [hr] at e1; cases e1
def A3 (W : World) (b t i : Nat) (X : Nat → Value) : Prop := ∃ cs, W.heap[b]? = some (.cells cs t (0, 0)) ∧ cs.size = 3 ∧ ∀ j, j < i → cs[j]? = some (X j)
section
variable {W W' : World} {b t i : Nat} {X : Nat → Value}
theorem A3.below (h : A3 W b t i X) (hb : Below W.heap.size W W') : A3 W' b t i X := by
  obtain ⟨cs, h1, h2⟩ := h
  exact ⟨cs, blk_of hb h1 (hp_lt h1), h2⟩
theorem A3.grown (h : A3 W b t i X) {B e s l : Nat} {v : Value} {xs : List Value} (ho : W.ownsRow B e s v l xs) (hne : t ≠ e) {row : Option Nat} (hr : row = v.ownBlock ∨ row = none) (hg : W.grownBy W' row) : A3 W' b t i X := by
  obtain ⟨cs, h1, h2⟩ := h
  exact ⟨cs, blk_grown h1 ho hne hr hg, h2⟩
theorem A3.upd (h : A3 W b t i X) (x : Value) : A3 W b t i (upd X i x) := by
  obtain ⟨cs, h1, h2, h3⟩ := h
  exact ⟨cs, h1, h2, fun j hj => by rw [upd_ne _ _ (by omega)]; exact h3 j hj⟩
theorem A3.zero (h : ∃ cs, W.heap[b]? = some (.cells cs t (0, 0)) ∧ cs.size = 3) (X : Nat → Value) : A3 W b t 0 X := by
  obtain ⟨cs, h1, h2⟩ := h
  exact ⟨cs, h1, h2, fun j hj => by omega⟩
theorem A3.put (h : A3 W b t i X) (hi : i < 3) : A3 (W.setCell ⟨b, i, none⟩ (X i)) b t (i + 1) X := by
  obtain ⟨cs, h1, h2, h3⟩ := h
  refine ⟨_, Go.heap_setCell_same W b i cs t (X i) h1, by simp [h2], fun j hj => ?_⟩
  by_cases e : j = i
  · subst e; simp [h2, hi]
  · rw [Array.getElem?_setIfInBounds, if_neg (by omega)]; exact h3 j (by omega)
theorem A3.set (h : A3 W b t i X) {p : Nat} (o : Nat) (u : Value) (hp : p ≠ b) : A3 (W.setCell ⟨p, o, none⟩ u) b t i X := by
  obtain ⟨cs, h1, h2⟩ := h
  exact ⟨cs, (((Kept.refl (fun q => q = p) W).setCell (p := ⟨p, o, none⟩) (fun _ => rfl) u).block b (hp_lt h1) (fun e => hp e.symm)).trans h1, h2⟩
theorem A3.cell (h : A3 W b t i X) (hi : i < 3) : (∃ u, W.cell? ⟨b, i, none⟩ = some u) ∧ W.frozen? ⟨b, i, none⟩ = false := by
  obtain ⟨cs, h1, h2, _⟩ := h
  exact ⟨⟨cs[i]'(by omega), by rw [cell_of_row _ _ _ _ _ _ h1]; exact Array.getElem?_eq_getElem _⟩, by simp [World.frozen?, h1]⟩
theorem A3.at_ (h : A3 W b t i X) {j : Nat} (hj : j < i) : W.cell? ⟨b, j, none⟩ = some (X j) := by
  obtain ⟨cs, h1, h2, h3⟩ := h
  rw [cell_of_row _ _ _ _ _ _ h1]; exact h3 j hj
theorem A3.ne {b2 t2 i2 : Nat} {X2 : Nat → Value} (h : A3 W b t i X) (h2 : A3 W b2 t2 i2 X2) (hne : t ≠ t2) : b ≠ b2 := fun e => by
  obtain ⟨cs, h1, _⟩ := h
  obtain ⟨c2, h3, _⟩ := h2
  subst e
  rw [h1] at h3
  injection h3 with h3
  injection h3 with _ h3
  exact hne h3
theorem Ap.set {B e s c n : Nat} {mk : Nat → Value} {lab ln : Nat → Nat} {V X' : Nat → Value} (h : Ap W B e s c mk n lab V X' ln) (ha : A3 W b t i X) (hne : t ≠ e) (o : Nat) (u : Value) : Ap (W.setCell ⟨b, o, none⟩ u) B e s c mk n lab V X' ln := by
  obtain ⟨cs, h1, _⟩ := ha
  refine h.kept ((Kept.refl (fun q => q = b) W).setCell (p := ⟨b, o, none⟩) (fun _ => rfl) u) (fun q hq _ cur hc => ?_)
  subst hq
  rw [h1] at hc
  injection hc with hc
  injection hc with _ hc
  exact hne hc
end
structure ES (WA W : World) (f : Ef) (mk3 : Nat → Value) (A1 A2 A3' : Nat → Option Addr) (q1 q2 q3 : Nat → Nat) (B b1 b2 b3 i k1 k2 k3 : Nat) (X1 X2 X3 : Nat → Value) : Prop where
  bl : Below WA.heap.size WA W
  hd : ∃ cs, W.heap[WA.heap.size]? = some (.cells cs 51 (0, 0)) ∧ cs.size = 15 ∧ ∀ j, j < 3 → cs[j * 5]? = some (.int .i64 f.st) ∧ cs[j * 5 + 1]? = some (.int .i64 f.at_) ∧ cs[j * 5 + 2]? = some (.slice (A1 j) f.td.length (q1 j)) ∧ cs[j * 5 + 3]? = some (.slice (A2 j) f.wr.length (q2 j)) ∧ cs[j * 5 + 4]? = some (.slice (A3' j) f.lk.length (q3 j))
  t1 : A3 W b1 56 i X1
  t2 : A3 W b2 57 i X2
  t3 : A3 W b3 58 i X3
  p1 : ∃ lab, Ap W B 29 3 0 mz f.td.length lab (fun j => .slice (A1 j) f.td.length (q1 j)) X1 (lnf i k1 f.td.length)
  p2 : ∃ lab, Ap W B 45 4 1 mz f.wr.length lab (fun j => .slice (A2 j) f.wr.length (q2 j)) X2 (lnf i k2 f.wr.length)
  p3 : ∃ lab, Ap W B 55 2 0 mk3 f.lk.length lab (fun j => .slice (A3' j) f.lk.length (q3 j)) X3 (lnf i k3 f.lk.length)
  lB : WA.heap.size < B
  BW : B ≤ W.heap.size
section
variable {WA W W' : World} {f : Ef} {mk3 : Nat → Value} {A1 A2 A3' : Nat → Option Addr} {q1 q2 q3 : Nat → Nat} {B b1 b2 b3 i k1 k2 k3 : Nat} {X1 X2 X3 : Nat → Value}
theorem ES.below (h : ES WA W f mk3 A1 A2 A3' q1 q2 q3 B b1 b2 b3 i k1 k2 k3 X1 X2 X3) (hb : Below W.heap.size W W') : ES WA W' f mk3 A1 A2 A3' q1 q2 q3 B b1 b2 b3 i k1 k2 k3 X1 X2 X3 := by
  obtain ⟨cs, hc, hr⟩ := h.hd
  obtain ⟨l1, p1⟩ := h.p1
  obtain ⟨l2, p2⟩ := h.p2
  obtain ⟨l3, p3⟩ := h.p3
  exact ⟨below_on h.bl hb, ⟨cs, blk_of hb hc (hp_lt hc), hr⟩, h.t1.below hb, h.t2.below hb, h.t3.below hb, ⟨l1, p1.below hb⟩, ⟨l2, p2.below hb⟩, ⟨l3, p3.below hb⟩, h.lB, Nat.le_trans h.BW hb.size⟩
theorem ES.hdr (h : ES WA W f mk3 A1 A2 A3' q1 q2 q3 B b1 b2 b3 i k1 k2 k3 X1 X2 X3) {e s l : Nat} {v : Value} {xs : List Value} (ho : W.ownsRow B e s v l xs) (h51 : 51 ≠ e) {row : Option Nat} (hr : row = v.ownBlock ∨ row = none) (hg : W.grownBy W' row) :
    Below WA.heap.size WA W' ∧ (∃ cs, W'.heap[WA.heap.size]? = some (.cells cs 51 (0, 0)) ∧ cs.size = 15 ∧ ∀ j, j < 3 → cs[j * 5]? = some (.int .i64 f.st) ∧ cs[j * 5 + 1]? = some (.int .i64 f.at_) ∧ cs[j * 5 + 2]? = some (.slice (A1 j) f.td.length (q1 j)) ∧ cs[j * 5 + 3]? = some (.slice (A2 j) f.wr.length (q2 j)) ∧ cs[j * 5 + 4]? = some (.slice (A3' j) f.lk.length (q3 j))) := by
  obtain ⟨cs, hc, hr'⟩ := h.hd
  refine ⟨h.bl.trans (((Kept.refl (fun k => row = some k) W).grown hg (fun k _ h => h)).below h.bl.size (fun k hk e1 => ?_)), cs, blk_grown hc ho h51 hr hg, hr'⟩
  have hlB := h.lB
  rcases hr with hr | hr
  · have := (ho.lt k (hr.symm.trans e1)).1; omega
  · rw [hr] at e1; cases e1
theorem ES.x1 (h : ES WA W f mk3 A1 A2 A3' q1 q2 q3 B b1 b2 b3 i k1 k2 k3 X1 X2 X3) (hi : i < 3) : ∃ cs, W.ownsRow B 29 3 (X1 i) (f.td.length + k1) cs ∧ ∀ p, p < f.td.length + k1 → cs[p * 3]? = some (mz (brs i p f.td.length)) := by
  obtain ⟨l, p⟩ := h.p1
  have := p.row i hi
  rwa [lnf_at] at this
theorem ES.x2 (h : ES WA W f mk3 A1 A2 A3' q1 q2 q3 B b1 b2 b3 i k1 k2 k3 X1 X2 X3) (hi : i < 3) : ∃ cs, W.ownsRow B 45 4 (X2 i) (f.wr.length + k2) cs ∧ ∀ p, p < f.wr.length + k2 → cs[p * 4 + 1]? = some (mz (brs i p f.wr.length)) := by
  obtain ⟨l, p⟩ := h.p2
  have := p.row i hi
  rwa [lnf_at] at this
theorem ES.x3 (h : ES WA W f mk3 A1 A2 A3' q1 q2 q3 B b1 b2 b3 i k1 k2 k3 X1 X2 X3) (hi : i < 3) : ∃ cs, W.ownsRow B 55 2 (X3 i) (f.lk.length + k3) cs ∧ ∀ p, p < f.lk.length + k3 → cs[p * 2]? = some (mk3 (brs i p f.lk.length)) := by
  obtain ⟨l, p⟩ := h.p3
  have := p.row i hi
  rwa [lnf_at] at this
def Grw (W W' : World) (v v' : Value) : Prop := v'.ownBlock = v.ownBlock ∧ v.ownBlock ≠ none ∧ W.grownBy W' v.ownBlock ∨ W.heap.size ≤ (v'.ownBlock.getD W.heap.size) ∧ W.grownBy W' none
theorem Grw.row {W W' : World} {v v' : Value} (h : Grw W W' v v') : ∃ row, (row = v.ownBlock ∨ row = none) ∧ W.grownBy W' row ∧ Kept (fun k => row = some k) W W' := by
  rcases h with ⟨_, _, h⟩ | ⟨_, h⟩
  · exact ⟨_, .inl rfl, h, (Kept.refl _ W).grown h (fun k _ h => h)⟩
  · exact ⟨_, .inr rfl, h, (Kept.refl _ W).grown h (fun k _ h => h)⟩
theorem ES.app1 (h : ES WA W f mk3 A1 A2 A3' q1 q2 q3 B b1 b2 b3 i k1 k2 k3 X1 X2 X3) (hi : i < 3) {cs ys : List Value} {ao : Option Addr} {cap : Nat} (hcs : W.ownsRow B 29 3 (X1 i) (f.td.length + k1) cs) (hv : ∀ p, p < f.td.length + k1 → cs[p * 3]? = some (mz (brs i p f.td.length)))
    (hown : W'.ownsRow B 29 3 (.slice ao (f.td.length + k1 + 1) cap) (f.td.length + k1 + 1) (cs ++ ys)) (hy : ys[0]? = some (mz (100 + i))) (hg : Grw W W' (X1 i) (.slice ao (f.td.length + k1 + 1) cap)) :
    ES WA W' f mk3 A1 A2 A3' q1 q2 q3 B b1 b2 b3 i (k1 + 1) k2 k3 (upd X1 i (.slice ao (f.td.length + k1 + 1) cap)) X2 X3 := by
  obtain ⟨row, hr, hgr, hk⟩ := hg.row
  obtain ⟨c1, c2⟩ := h.hdr hcs (by decide) hr hgr
  obtain ⟨l1, p1⟩ := h.p1
  obtain ⟨l2, p2⟩ := h.p2
  obtain ⟨l3, p3⟩ := h.p3
  have hl := lnf_at i k1 f.td.length
  obtain ⟨lab', p1'⟩ := p1.app (W' := W') (by decide) hi (cs := cs) (ys := ys) (ao := ao) (cap := cap) h.BW (by rw [hl]; exact hcs) (by rw [hl]; exact hv) (by rw [hl]; exact hown) hy (by rw [hl]; exact hg)
  rw [hl, lnf_step] at p1'
  exact ⟨c1, c2, (h.t1.grown hcs (by decide) hr hgr).upd _, h.t2.grown hcs (by decide) hr hgr, h.t3.grown hcs (by decide) hr hgr, ⟨lab', p1'⟩, ⟨l2, p2.other hcs (by decide) hr hgr⟩, ⟨l3, p3.other hcs (by decide) hr hgr⟩, h.lB, Nat.le_trans h.BW hk.size⟩
theorem ES.app2 (h : ES WA W f mk3 A1 A2 A3' q1 q2 q3 B b1 b2 b3 i k1 k2 k3 X1 X2 X3) (hi : i < 3) {cs ys : List Value} {ao : Option Addr} {cap : Nat} (hcs : W.ownsRow B 45 4 (X2 i) (f.wr.length + k2) cs) (hv : ∀ p, p < f.wr.length + k2 → cs[p * 4 + 1]? = some (mz (brs i p f.wr.length)))
    (hown : W'.ownsRow B 45 4 (.slice ao (f.wr.length + k2 + 1) cap) (f.wr.length + k2 + 1) (cs ++ ys)) (hy : ys[1]? = some (mz (100 + i))) (hg : Grw W W' (X2 i) (.slice ao (f.wr.length + k2 + 1) cap)) :
    ES WA W' f mk3 A1 A2 A3' q1 q2 q3 B b1 b2 b3 i k1 (k2 + 1) k3 X1 (upd X2 i (.slice ao (f.wr.length + k2 + 1) cap)) X3 := by
  obtain ⟨row, hr, hgr, hk⟩ := hg.row
  obtain ⟨c1, c2⟩ := h.hdr hcs (by decide) hr hgr
  obtain ⟨l1, p1⟩ := h.p1
  obtain ⟨l2, p2⟩ := h.p2
  obtain ⟨l3, p3⟩ := h.p3
  have hl := lnf_at i k2 f.wr.length
  obtain ⟨lab', p2'⟩ := p2.app (W' := W') (by decide) hi (cs := cs) (ys := ys) (ao := ao) (cap := cap) h.BW (by rw [hl]; exact hcs) (by rw [hl]; exact hv) (by rw [hl]; exact hown) hy (by rw [hl]; exact hg)
  rw [hl, lnf_step] at p2'
  exact ⟨c1, c2, h.t1.grown hcs (by decide) hr hgr, (h.t2.grown hcs (by decide) hr hgr).upd _, h.t3.grown hcs (by decide) hr hgr, ⟨l1, p1.other hcs (by decide) hr hgr⟩, ⟨lab', p2'⟩, ⟨l3, p3.other hcs (by decide) hr hgr⟩, h.lB, Nat.le_trans h.BW hk.size⟩
theorem ES.app3 (h : ES WA W f mk3 A1 A2 A3' q1 q2 q3 B b1 b2 b3 i k1 k2 k3 X1 X2 X3) (hi : i < 3) {cs ys : List Value} {ao : Option Addr} {cap : Nat} (hcs : W.ownsRow B 55 2 (X3 i) (f.lk.length + k3) cs) (hv : ∀ p, p < f.lk.length + k3 → cs[p * 2]? = some (mk3 (brs i p f.lk.length)))
    (hown : W'.ownsRow B 55 2 (.slice ao (f.lk.length + k3 + 1) cap) (f.lk.length + k3 + 1) (cs ++ ys)) (hy : ys[0]? = some (mk3 (100 + i))) (hg : Grw W W' (X3 i) (.slice ao (f.lk.length + k3 + 1) cap)) :
    ES WA W' f mk3 A1 A2 A3' q1 q2 q3 B b1 b2 b3 i k1 k2 (k3 + 1) X1 X2 (upd X3 i (.slice ao (f.lk.length + k3 + 1) cap)) := by
  obtain ⟨row, hr, hgr, hk⟩ := hg.row
  obtain ⟨c1, c2⟩ := h.hdr hcs (by decide) hr hgr
  obtain ⟨l1, p1⟩ := h.p1
  obtain ⟨l2, p2⟩ := h.p2
  obtain ⟨l3, p3⟩ := h.p3
  have hl := lnf_at i k3 f.lk.length
  obtain ⟨lab', p3'⟩ := p3.app (W' := W') (by decide) hi (cs := cs) (ys := ys) (ao := ao) (cap := cap) h.BW (by rw [hl]; exact hcs) (by rw [hl]; exact hv) (by rw [hl]; exact hown) hy (by rw [hl]; exact hg)
  rw [hl, lnf_step] at p3'
  exact ⟨c1, c2, h.t1.grown hcs (by decide) hr hgr, h.t2.grown hcs (by decide) hr hgr, (h.t3.grown hcs (by decide) hr hgr).upd _, ⟨l1, p1.other hcs (by decide) hr hgr⟩, ⟨l2, p2.other hcs (by decide) hr hgr⟩, ⟨lab', p3'⟩, h.lB, Nat.le_trans h.BW hk.size⟩
theorem ES.next (h : ES WA W f mk3 A1 A2 A3' q1 q2 q3 B b1 b2 b3 i 40 40 40 X1 X2 X3) (hi : i < 3) (hB1 : WA.heap.size < b1) (hB2 : WA.heap.size < b2) (hB3 : WA.heap.size < b3) :
    ES WA (((W.setCell ⟨b1, i, none⟩ (X1 i)).setCell ⟨b2, i, none⟩ (X2 i)).setCell ⟨b3, i, none⟩ (X3 i)) f mk3 A1 A2 A3' q1 q2 q3 B b1 b2 b3 (i + 1) 0 0 0 X1 X2 X3 := by
  have n12 := h.t1.ne h.t2 (by decide)
  have n13 := h.t1.ne h.t3 (by decide)
  have n23 := h.t2.ne h.t3 (by decide)
  obtain ⟨cs, hc, hr⟩ := h.hd
  obtain ⟨l1, p1⟩ := h.p1
  obtain ⟨l2, p2⟩ := h.p2
  obtain ⟨l3, p3⟩ := h.p3
  have K : Kept (fun q => q = b1 ∨ q = b2 ∨ q = b3) W (((W.setCell ⟨b1, i, none⟩ (X1 i)).setCell ⟨b2, i, none⟩ (X2 i)).setCell ⟨b3, i, none⟩ (X3 i)) :=
    (((Kept.refl (fun q => q = b1 ∨ q = b2 ∨ q = b3) W).setCell (p := ⟨b1, i, none⟩) (fun _ => .inl rfl) _).setCell (p := ⟨b2, i, none⟩) (fun _ => .inr (.inl rfl)) _).setCell (p := ⟨b3, i, none⟩) (fun _ => .inr (.inr rfl)) _
  have a1 := h.t1.put hi
  have a2 := (h.t2.set i (X1 i) n12)
  have a3 := ((h.t3.set i (X1 i) n13).set i (X2 i) n23)
  refine ⟨h.bl.trans (K.below h.bl.size (fun k hk e => by omega)), ⟨cs, (K.block _ (hp_lt hc) (fun e => by omega)).trans hc, hr⟩, (a1.set i (X2 i) (Ne.symm n12)).set i (X3 i) (Ne.symm n13), (a2.put hi).set i (X3 i) (Ne.symm n23), a3.put hi, ?_, ?_, ?_, h.lB, Nat.le_trans h.BW K.size⟩
  · rw [← lnf_next]; exact ⟨l1, ((p1.set h.t1 (by decide) i (X1 i)).set a2 (by decide) i (X2 i)).set a3 (by decide) i (X3 i)⟩
  · rw [← lnf_next]; exact ⟨l2, ((p2.set h.t1 (by decide) i (X1 i)).set a2 (by decide) i (X2 i)).set a3 (by decide) i (X3 i)⟩
  · rw [← lnf_next]; exact ⟨l3, ((p3.set h.t1 (by decide) i (X1 i)).set a2 (by decide) i (X2 i)).set a3 (by decide) i (X3 i)⟩
theorem MF.es {L : Nat → Nat} {m1 m2 : Nat → Nat → Int} {m3 : Nat → Nat → ByteArray} {d3 : Nat → ByteArray} (h : MF WA W f A1 A2 A3' q1 q2 q3 L m1 m2 m3) (h1 : Mk (fun j => 10 + (j : Int)) 3 0 f.td.length m1) (h2 : Mk (fun j => 10 + (j : Int)) 3 0 f.wr.length m2) (h3 : Mk d3 3 0 f.lk.length m3) (hd : ∀ j, j < 3 → .string (d3 j) = mk3 (10 + j)) (hB : L 0 ≤ W.heap.size)
    (c1 : ∃ cs, W.heap[b1]? = some (.cells cs 56 (0, 0)) ∧ cs.size = 3) (c2 : ∃ cs, W.heap[b2]? = some (.cells cs 57 (0, 0)) ∧ cs.size = 3) (c3 : ∃ cs, W.heap[b3]? = some (.cells cs 58 (0, 0)) ∧ cs.size = 3) :
    ES WA W f mk3 A1 A2 A3' q1 q2 q3 (L 0) b1 b2 b3 0 0 0 0 (fun j => .slice (A1 j) f.td.length (q1 j)) (fun j => .slice (A2 j) f.wr.length (q2 j)) (fun j => .slice (A3' j) f.lk.length (q3 j)) := by
  obtain ⟨l1, p1⟩ := h.f1.ap h1 mz (fun j _ => by unfold mi mz; congr 1)
  obtain ⟨l2, p2⟩ := h.f2.ap h2 mz (fun j _ => by unfold mi mz; congr 1)
  obtain ⟨l3, p3⟩ := h.f3.ap h3 mk3 (fun j hj => hd j hj)
  exact ⟨h.bl, h.hd, A3.zero c1 _, A3.zero c2 _, A3.zero c3 _, ⟨l1, by rw [lnf_zero]; exact p1⟩, ⟨l2, by rw [lnf_zero]; exact p2⟩, ⟨l3, by rw [lnf_zero]; exact p3⟩, h.l0, hB⟩
end
end Go.Proofs.YthcoigbkdbkojabGreat
