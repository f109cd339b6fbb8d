import Derived.Test.YtljfmbjibjoiiabK15
namespace Go.Proofs.Ytljfmbjibjoiiab
open Go.RowKit Go.Lib

theorem own_set {W : World} {g : Nat} {zs : List Int} {i : Nat} {x : Int} (h : Own W g zs) : Own (W.setCell ⟨g, i, none⟩ (.int .u8 x)) g (zs.set i x) := by
  unfold Own at *
  simp [World.setCell, Array.getElem?_modify, h, List.map_set]

theorem own_cell {W : World} {g : Nat} {zs : List Int} {j : Nat} {x : Int} (h : Own W g zs) (hj : zs[j]? = some x) : W.cell? ⟨g, j, none⟩ = some (.int .u8 x) := by
  rw [cell_of_row W _ _ _ _ _ h]
  simp [hj]

theorem own_free {W : World} {g : Nat} {zs : List Int} (h : Own W g zs) (o : Nat) : W.frozen? ⟨g, o, none⟩ = false := free_of_block h

theorem Ck.free {W : World} {b : Nat} {xs : List Ins} (h : Ck W b xs) (o : Nat) : W.frozen? ⟨b, o, none⟩ = false := by
  obtain ⟨⟨cs, hc⟩, _⟩ := h
  simp [World.frozen?, hc]

theorem Ck.put {W : World} {b : Nat} {xs : List Ins} (h : Ck W b xs) {k : Nat} (hk : k < xs.length) (y : Ins) : Ck (put8 W b (k * 8) y) b (xs.set k y) := by
  obtain ⟨⟨cs, hc⟩, h2⟩ := h
  refine ⟨?_, fun j x hx => ?_⟩
  · unfold put8
    simp [World.setCell, Array.getElem?_modify, hc]
  · by_cases e : j = k
    · subst e
      rw [List.getElem?_set_self hk] at hx
      injection hx with hx
      subst hx
      exact put8_in W b (j * 8) y _ (h2 j _ (List.getElem?_eq_getElem hk))
    · rw [List.getElem?_set_ne (fun e2 => e e2.symm)] at hx
      have hi := h2 j x hx
      have e0 := fun m => put8_out W b (k * 8) y (j * 8 + m)
      obtain ⟨a0, a1, a2, a4, a5, a6, a7, a8⟩ := hi
      exact ⟨(put8_out W b (k * 8) y (j * 8) (by omega)).trans a0, (e0 1 (by omega)).trans a1, (e0 2 (by omega)).trans a2, (e0 3 (by omega)).trans a4, (e0 4 (by omega)).trans a5, (e0 5 (by omega)).trans a6, (e0 6 (by omega)).trans a7, (e0 7 (by omega)).trans a8⟩

theorem Sb.setR {w1 W : World} {ra rc : Nat} {g c : Nat → Nat} {f h : Nat → Value} {R : Nat → List Int} {X : Nat → List Ins} (s : Sb w1 W ra rc g c f h R X 3) {i : Nat} (hi : i < 3) (k : Nat) (x : Int) :
    Sb w1 (W.setCell ⟨g i, k, none⟩ (.int .u8 x)) ra rc g c f h (upd R i ((R i).set k x)) X 3 := by
  have kk := (Kept.refl (fun b => b = g i) W).setCell (p := ⟨g i, k, none⟩) (fun _ => rfl) (.int .u8 x)
  have hg := (s.gl i hi).1
  have hlr := s.lr
  refine ⟨s.hb.trans (kk.below s.hb.size (fun b h1 h2 => by omega)), (kk.block _ (lt_of s.ha) (by omega)).trans s.ha, (kk.block _ (lt_of s.hc) (by omega)).trans s.hc, s.lr, fun j hj => ?_, s.hv, fun j hj => ?_, fun j hj => ?_, s.gl, s.gi⟩
  · by_cases e : j = i
    · subst e; rw [upd_self, List.length_set]; exact s.fv j hj
    · rw [upd_ne R _ e]; exact s.fv j hj
  · by_cases e : j = i
    · subst e; rw [upd_self]; exact own_set (s.ro j hj)
    · rw [upd_ne R _ e]
      refine (kk.block _ (lt_of (s.ro j hj)) (fun e2 => ?_)).trans (s.ro j hj)
      rcases Nat.lt_or_gt_of_ne e with h1 | h1
      · exact (s.gi j i h1 hi).1 e2
      · exact (s.gi i j h1 hj).1 e2.symm
  · obtain ⟨⟨cs, hc⟩, _⟩ := s.co j hj
    exact (s.co j hj).same (kk.block _ (s.co j hj).lt (own_ty (s.ro i hi) hc (by decide)))

theorem Sb.setX {w1 W : World} {ra rc : Nat} {g c : Nat → Nat} {f h : Nat → Value} {R : Nat → List Int} {X : Nat → List Ins} (s : Sb w1 W ra rc g c f h R X 3) {i : Nat} (hi : i < 3) {k : Nat} (hk : k < (X i).length) (y : Ins) :
    Sb w1 (put8 W (c i) (k * 8) y) ra rc g c f h R (upd X i ((X i).set k y)) 3 := by
  have kk := put8_kept W (c i) (k * 8) y
  have hg := (s.gl i hi).2
  have hlr := s.lr
  refine ⟨s.hb.trans (kk.below s.hb.size (fun b h1 h2 => by omega)), (kk.block _ (lt_of s.ha) (by omega)).trans s.ha, (kk.block _ (lt_of s.hc) (by omega)).trans s.hc, s.lr, s.fv, fun j hj => ?_, fun j hj => ?_, fun j hj => ?_, s.gl, s.gi⟩
  · by_cases e : j = i
    · subst e; rw [upd_self, List.length_set]; exact s.hv j hj
    · rw [upd_ne X _ e]; exact s.hv j hj
  · obtain ⟨⟨cs, hc⟩, _⟩ := s.co i hi
    exact (kk.block _ (lt_of (s.ro j hj)) (fun e => own_ty (s.ro j hj) hc (by decide) e.symm)).trans (s.ro j hj)
  · by_cases e : j = i
    · subst e; rw [upd_self]; exact (s.co j hj).put hk y
    · rw [upd_ne X _ e]
      refine (s.co j hj).same (kk.block _ (s.co j hj).lt (fun e2 => ?_))
      rcases Nat.lt_or_gt_of_ne e with h1 | h1
      · exact (s.gi j i h1 hi).2 e2
      · exact (s.gi i j h1 hj).2 e2.symm

def mkO (o : Int) : Ins := ⟨o, 0, 0, 0, 0, 0, 0, emp⟩

/-- Written full up to the i-th, of that one up to k bytes and m instructions. -/
structure Wrt (R : Nat → List Int) (X : Nat → List Ins) (L M i k m : Nat) : Prop where
  l : ∀ j, j < 3 → (R j).length = L ∧ (X j).length = M
  a : ∀ j, j < i → j < 3 → (∀ p, p < L → (R j)[p]? = some (10 + (j : Int))) ∧ ∀ p, p < M → (X j)[p]? = some (mkO (30 + (j : Int)))
  r : i < 3 → ∀ p, p < k → (R i)[p]? = some (10 + (i : Int))
  x : i < 3 → ∀ p, p < m → (X i)[p]? = some (mkO (30 + (i : Int)))

theorem Wrt.byte {R : Nat → List Int} {X : Nat → List Ins} {L M i k m : Nat} (h : Wrt R X L M i k m) (hi : i < 3) (hk : k < L) : Wrt (upd R i ((R i).set k (10 + (i : Int)))) X L M i (k + 1) m := by
  refine ⟨fun j hj => ?_, fun j hj h3 => ?_, fun _ p hp => ?_, h.x⟩
  · by_cases e : j = i
    · subst e; rw [upd_self, List.length_set]; exact h.l j hj
    · rw [upd_ne R _ e]; exact h.l j hj
  · rw [upd_ne R _ (by omega)]; exact h.a j hj h3
  · rw [upd_self]
    by_cases e : k = p
    · subst e; rw [List.getElem?_set_self (by have := (h.l i hi).1; omega)]
    · rw [List.getElem?_set_ne e]; exact h.r hi p (by omega)

theorem Wrt.ins {R : Nat → List Int} {X : Nat → List Ins} {L M i k m : Nat} (h : Wrt R X L M i k m) (hi : i < 3) (hk : m < M) : Wrt R (upd X i ((X i).set m (mkO (30 + (i : Int))))) L M i k (m + 1) := by
  refine ⟨fun j hj => ?_, fun j hj h3 => ?_, h.r, fun _ p hp => ?_⟩
  · by_cases e : j = i
    · subst e; rw [upd_self, List.length_set]; exact h.l j hj
    · rw [upd_ne X _ e]; exact h.l j hj
  · rw [upd_ne X _ (by omega)]; exact h.a j hj h3
  · rw [upd_self]
    by_cases e : m = p
    · subst e; rw [List.getElem?_set_self (by have := (h.l i hi).2; omega)]
    · rw [List.getElem?_set_ne e]; exact h.x hi p (by omega)

theorem Wrt.next {R : Nat → List Int} {X : Nat → List Ins} {L M i : Nat} (h : Wrt R X L M i L M) : Wrt R X L M (i + 1) 0 0 := by
  refine ⟨h.l, fun j hj h3 => ?_, fun _ p hp => absurd hp (Nat.not_lt_zero _), fun _ p hp => absurd hp (Nat.not_lt_zero _)⟩
  by_cases e : j = i
  · subst e; exact ⟨h.r h3, h.x h3⟩
  · exact h.a j (by omega) h3

end Go.Proofs.Ytljfmbjibjoiiab

namespace Go.Proofs.Ytljfmbjibjoiiab
open Go.RowKit Go.Lib

/-- A row that is added to: one's own from B on, or one that is full and lies below. -/
def Gr (W : World) (B : Nat) (e : TypeId) (m : Nat) (v : Value) (n : Nat) (cs : List Value) : Prop :=
  W.ownsRow B e m v n cs ∨ ∃ b, v = .slice (some ⟨b, 0, none⟩) n n ∧ b < B ∧ b < W.heap.size ∧ Rf W m v n cs

/-- Only rows of this type from B on may have been written. -/
def Wro (B : Nat) (e : TypeId) (w w' : World) : Prop := Kept (fun k => B ≤ k ∧ ∃ cur, w.heap[k]? = some (.cells cur e (0, 0))) w w'

theorem Wro.below {B : Nat} {e : TypeId} {w w' : World} (h : Wro B e w w') (hB : B ≤ w.heap.size) : Below B w w' := Kept.below h hB (fun k h1 h2 => by omega)

theorem owns_mono {W : World} {B B' : Nat} {e : TypeId} {m : Nat} {v : Value} {n : Nat} {xs : List Value} (h : W.ownsRow B e m v n xs) (hB : B' ≤ B) : W.ownsRow B' e m v n xs := by
  refine ⟨h.1, ?_⟩
  rcases h.2 with h0 | ⟨g, cap, cur, e1, hb, rest⟩
  · exact .inl h0
  · exact .inr ⟨g, cap, cur, e1, Nat.le_trans hB hb, rest⟩

theorem owns_ty {W : World} {B : Nat} {e : TypeId} {m : Nat} {v : Value} {n : Nat} {xs : List Value} (h : W.ownsRow B e m v n xs) {k : Nat} (hk : v.ownBlock = some k) : ∃ cur, W.heap[k]? = some (.cells cur e (0, 0)) := by
  rcases h.2 with ⟨rfl, _⟩ | ⟨g', cap, cur, rfl, _, hgg, _⟩
  · simp [Value.ownBlock] at hk
  · simp [Value.ownBlock] at hk
    subst hk
    exact ⟨cur, hgg⟩

theorem Gr.other {w w' : World} {B : Nat} {e e' : TypeId} {m : Nat} {v : Value} {n : Nat} {cs : List Value} (h : Gr w B e m v n cs) (hw : Wro B e' w w') (hne : e ≠ e') : Gr w' B e m v n cs := by
  rcases h with h | ⟨b, rfl, hb, hl, hr⟩
  · refine .inl (ownsRow_kept h hw (fun k hk ⟨_, cur, hc⟩ => ?_))
    obtain ⟨cu, hcu⟩ := owns_ty h hk
    rw [hcu] at hc
    simp at hc
    exact hne hc.2
  · refine .inr ⟨b, rfl, hb, Nat.lt_of_lt_of_le hl hw.size, hr.kept hw (fun k hk ⟨h1, _⟩ => ?_)⟩
    simp [Value.ownBlock] at hk
    omega

theorem Gr.alloc {w : World} {B : Nat} {e : TypeId} {m : Nat} {v : Value} {n : Nat} {cs : List Value} (h : Gr w B e m v n cs) (o : Obj) : Gr (w.alloc o) B e m v n cs := by
  have hb := below1 w o
  rcases h with h | ⟨b, rfl, hb1, hl, hr⟩
  · exact .inl (ownsRow_kept h (Kept.ofBelow hb) (fun _ _ h => h))
  · exact .inr ⟨b, rfl, hb1, Nat.lt_of_lt_of_le hl hb.size, hr.below hb⟩

theorem Gr.shape {w : World} {B : Nat} {e : TypeId} {m : Nat} {v : Value} {n : Nat} {cs : List Value} (h : Gr w B e m v n cs) : ∃ ao c, v = .slice ao n c := by
  rcases h with h | ⟨b, rfl, _⟩
  · exact own_shape h
  · exact ⟨_, _, rfl⟩

set_option maxRecDepth 100000 in
theorem wpList_append_gr (w : World) {ops : Array Oper} {rest : List Oper} {o : Oper} {a : Act} {Q : Exit → Act → World → Prop} (hgd : o.guard = none) (s x : Operand) (t e : TypeId) (z : Value) (m bytes : Nat)
    (ho : o.op = .call { callee := .builtin .append, args := #[s, x], argTypes := #[t, t] }) (ht : Try.prog.underlying t = some (.slice e)) (hinfo : (Try.prog.info? e).map (fun i => (i.zero, i.size, i.bytes)) = some (some z, m, bytes)) (hzs : z.cells.size = m) (hm : 0 < m)
    (B : Nat) (v : Value) (n : Nat) (xs : List Value) (hs : a.eval s = v) (hg : Gr w B e m v n xs)
    (q c1 : Nat) (ys : List Value) (hx : a.eval x = .slice (some ⟨q, 0, none⟩) 1 c1) (hsn : Rf w m (.slice (some ⟨q, 0, none⟩) 1 c1) 1 ys) (hl : (n + 1) * bytes ≤ 140737488355328) (hl2 : n + 1 ≤ maxLen) (hbase : B ≤ w.heap.size)
    (h : ∀ ao c w', Hid (w'.ownsRow B e m (.slice ao (n + 1) c) (n + 1) (xs ++ ys)) → Hid (Wro B e w w') → wpList Try.prog ops Q rest (a.put o.dst (.slice ao (n + 1) c)) w') : wpList Try.prog ops Q (o :: rest) a w := by
  rcases hg with hg | ⟨b, rfl, hb, hlt, hr⟩
  · refine wpList_append_rf w hgd s x t e z m bytes ho ht hinfo hzs hm B v n xs hs hg _ 1 ys hx hsn hl hl2 hbase ?_
    intro ao c w' h1 h2 _
    refine h ao c w' h1 (hid ?_)
    exact (Kept.refl _ w).grown h2.out (fun k _ hk => ⟨(hg.lt k hk).1, owns_ty hg hk⟩)
  · obtain ⟨i0, hi, hz0, hz1, hz2⟩ := info_parts hinfo
    obtain ⟨hr1, hr2, hr3⟩ := hr
    obtain ⟨hs1, hs2, hs3⟩ := hsn
    refine wpList_append_grows (P := Try.prog) w hgd s x t ho e i0 z m bytes ht hi hz0 hz1 hz2 hzs hm (some ⟨b, 0, none⟩) n n xs hs (fun e => by cases e) hr1 ?_ ⟨q, 0, none⟩ 1 c1 ys hx hs1 ?_ hs2 (by omega) hl2 hl ?_
    · intro b' e j u hu
      injection e with e
      subst e
      rcases hr3 with ⟨e1, _⟩ | ⟨a', cap, e1, _, _, h4⟩
      · cases e1
      · injection e1 with e1 _ _
        injection e1 with e1
        subst e1
        exact h4 j u hu
    · intro j u hu
      rcases hs3 with ⟨e1, _⟩ | ⟨a', cap, e1, _, _, h4⟩
      · cases e1
      · injection e1 with e1 _ _
        injection e1 with e1
        subst e1
        exact h4 j u hu
    · intro v' w' h1 h2
      obtain ⟨ao, c, rfl⟩ := own_shape h1
      refine h ao c w' (hid (owns_mono h1 hbase)) (hid ?_)
      exact (Kept.refl _ w).grown h2 (fun k _ hk => by cases hk)

end Go.Proofs.Ytljfmbjibjoiiab

namespace Go.Proofs.Ytljfmbjibjoiiab
open Go.RowKit Go.Lib

def lrow (L j k : Nat) : List Int := List.replicate L (10 + (j : Int)) ++ List.replicate k (100 + (j : Int))
def lcode (M j k : Nat) : List Ins := List.replicate M (mkO (30 + (j : Int))) ++ List.replicate k (mkO (60 + (j : Int)))

theorem lrow_len (L j k : Nat) : (lrow L j k).length = L + k := by simp [lrow]
theorem lcode_len (M j k : Nat) : (lcode M j k).length = M + k := by simp [lcode]
theorem lrow_succ (L j k : Nat) : lrow L j (k + 1) = lrow L j k ++ [100 + (j : Int)] := by
  unfold lrow
  rw [List.append_assoc, ← List.replicate_succ']
theorem lcode_succ (M j k : Nat) : lcode M j (k + 1) = lcode M j k ++ [mkO (60 + (j : Int))] := by
  unfold lcode
  rw [List.append_assoc, ← List.replicate_succ']
theorem lrow_at {L j k p : Nat} (h : p < L + k) : (lrow L j k)[p]? = some (if p < L then 10 + (j : Int) else 100 + (j : Int)) := by
  unfold lrow
  by_cases e : p < L
  · rw [List.getElem?_append_left (by simpa using e), if_pos e, List.getElem?_replicate, if_pos e]
  · rw [List.getElem?_append_right (by simp; omega), if_neg e, List.getElem?_replicate, if_pos (by simp; omega)]
theorem lcode_at {M j k p : Nat} (h : p < M + k) : (lcode M j k)[p]? = some (mkO (if p < M then 30 + (j : Int) else 60 + (j : Int))) := by
  unfold lcode
  by_cases e : p < M
  · rw [List.getElem?_append_left (by simpa using e), if_pos e, List.getElem?_replicate, if_pos e]
  · rw [List.getElem?_append_right (by simp; omega), if_neg e, List.getElem?_replicate, if_pos (by simp; omega)]

theorem all_rep {α : Type} {l : List α} {n : Nat} {x : α} (hl : l.length = n) (h : ∀ p, p < n → l[p]? = some x) : l = List.replicate n x := by
  apply List.ext_getElem
  · simp [hl]
  · intro i h1 h2
    have := h i (by omega)
    rw [List.getElem?_eq_getElem h1] at this
    simpa using Option.some.inj this

/-- And those that were added to, n of each. -/
structure Se (w1 W : World) (ra rc : Nat) (g c : Nat → Nat) (f h : Nat → Value) (R : Nat → List Int) (X : Nat → List Ins) (rl rm : Nat) (lf lh : Nat → Value) (L M n : Nat) : Prop where
  sb : Sb w1 W ra rc g c f h R X 3
  wt : Wrt R X L M 3 0 0
  ha : W.heap[rl]? = some (a3 lf 33)
  hc : W.heap[rm]? = some (a3 lh 34)
  lt : w1.heap.size ≤ rl ∧ rl < rm
  ne : rc < rl ∧ ∀ i, i < 3 → g i < rl ∧ c i < rl
  ro : ∀ j, j < n → W.ownsRow (rm + 1) 5 1 (lf j) (L + 70) (B8 (lrow L j 70))
  co : ∀ j, j < n → W.ownsRow (rm + 1) 42 8 (lh j) (M + 70) ((lcode M j 70).flatMap Ins.cells)

theorem Se.below {w1 W W' : World} {ra rc : Nat} {g c : Nat → Nat} {f h : Nat → Value} {R : Nat → List Int} {X : Nat → List Ins} {rl rm : Nat} {lf lh : Nat → Value} {L M n : Nat} (s : Se w1 W ra rc g c f h R X rl rm lf lh L M n) (hb : Below W.heap.size W W') : Se w1 W' ra rc g c f h R X rl rm lf lh L M n :=
  ⟨s.sb.below hb, s.wt, blk_of hb s.ha (lt_of s.ha), blk_of hb s.hc (lt_of s.hc), s.lt, s.ne, fun j hj => ownsRow_kept (s.ro j hj) (Kept.ofBelow hb) (fun _ _ h => h), fun j hj => ownsRow_kept (s.co j hj) (Kept.ofBelow hb) (fun _ _ h => h)⟩

theorem se_start {w1 W : World} {ra rc : Nat} {g c : Nat → Nat} {f h : Nat → Value} {R : Nat → List Int} {X : Nat → List Ins} {L M : Nat} (s : Sb w1 W ra rc g c f h R X 3) (wt : Wrt R X L M 3 0 0) :
    Se w1 ((W.alloc (a3 (fun _ => .slice none 0 0) 33)).alloc (a3 (fun _ => .slice none 0 0) 34)) ra rc g c f h R X W.heap.size (W.heap.size + 1) (fun _ => .slice none 0 0) (fun _ => .slice none 0 0) L M 0 :=
  ⟨s.below (below2 W _ _), wt, two1 W _ _, two2 W _ _, ⟨s.hb.size, by omega⟩, ⟨lt_of s.hc, fun i hi => ⟨lt_of (s.ro i hi), (s.co i hi).lt⟩⟩, fun j hj => absurd hj (Nat.not_lt_zero _), fun j hj => absurd hj (Nat.not_lt_zero _)⟩

theorem Se.more {w1 W W' : World} {ra rc : Nat} {g c : Nat → Nat} {f h : Nat → Value} {R : Nat → List Int} {X : Nat → List Ins} {rl rm : Nat} {lf lh : Nat → Value} {L M n : Nat} (s : Se w1 W ra rc g c f h R X rl rm lf lh L M n) (hn : n < 3) (hb : Below W.heap.size W W') {v u : Value}
    (ho : W'.ownsRow W.heap.size 5 1 v (L + 70) (B8 (lrow L n 70))) (hk : W'.ownsRow W.heap.size 42 8 u (M + 70) ((lcode M n 70).flatMap Ins.cells)) :
    Se w1 ((W'.setCell ⟨rl, n, none⟩ v).setCell ⟨rm, n, none⟩ u) ra rc g c f h R X rl rm (upd lf n v) (upd lh n u) L M (n + 1) := by
  have s' := s.below hb
  have hrm := lt_of s.hc
  have hlt := s.lt
  have hne := s.ne
  obtain ⟨e1, k1⟩ := a3_set s'.ha hn v
  have hc1 := (k1.block rm (lt_of s'.hc) (by omega)).trans s'.hc
  obtain ⟨e2, k2⟩ := a3_set hc1 hn u
  have e3 := (k2.block rl (lt_of e1) (by omega)).trans e1
  have kk : Kept (fun k => k = rl ∨ k = rm) W' ((W'.setCell ⟨rl, n, none⟩ v).setCell ⟨rm, n, none⟩ u) := (k1.mono (fun _ _ h => .inl h)).trans k2 (fun _ _ h => .inr h)
  generalize (W'.setCell ⟨rl, n, none⟩ v).setCell ⟨rm, n, none⟩ u = V at e2 e3 kk
  have hlr := s.sb.lr
  refine ⟨⟨s'.sb.hb.trans (kk.below s'.sb.hb.size (fun k h1 h2 => by omega)), (kk.block _ (lt_of s'.sb.ha) (by omega)).trans s'.sb.ha, (kk.block _ (lt_of s'.sb.hc) (by omega)).trans s'.sb.hc, s.sb.lr, s.sb.fv, s.sb.hv, fun i hi => ?_, fun i hi => ?_, s.sb.gl, s.sb.gi⟩, s.wt, e3, e2, s.lt, s.ne, fun j hj => ?_, fun j hj => ?_⟩
  · have := (hne.2 i hi).1
    exact (kk.block _ (lt_of (s'.sb.ro i hi)) (by omega)).trans (s'.sb.ro i hi)
  · have := (hne.2 i hi).2
    exact (s'.sb.co i hi).same (kk.block _ (s'.sb.co i hi).lt (by omega))
  · by_cases e : j = n
    · subst e
      rw [upd_self]
      exact ownsRow_kept (owns_mono ho (by omega)) kk (fun k hk2 h2 => by have := (ho.lt k hk2).1; omega)
    · rw [upd_ne lf _ e]
      exact ownsRow_kept (s'.ro j (by omega)) kk (fun k hk2 h2 => by have := ((s'.ro j (by omega)).lt k hk2).1; omega)
  · by_cases e : j = n
    · subst e
      rw [upd_self]
      exact ownsRow_kept (owns_mono hk (by omega)) kk (fun k hk2 h2 => by have := (hk.lt k hk2).1; omega)
    · rw [upd_ne lh _ e]
      exact ownsRow_kept (s'.co j (by omega)) kk (fun k hk2 h2 => by have := ((s'.co j (by omega)).lt k hk2).1; omega)

theorem gr_row {w1 W : World} {ra rc : Nat} {g c : Nat → Nat} {f h : Nat → Value} {R : Nat → List Int} {X : Nat → List Ins} {rl rm : Nat} {lf lh : Nat → Value} {L M n i : Nat} (s : Se w1 W ra rc g c f h R X rl rm lf lh L M n) (hi : i < 3) (hL : L ≤ 1000000000) :
    Gr W W.heap.size 5 1 (.slice (some ⟨g i, 0, none⟩) L L) (L + 0) (B8 (lrow L i 0)) := by
  have e : R i = lrow L i 0 := by
    unfold lrow
    rw [List.replicate_zero, List.append_nil]
    exact all_rep (s.wt.l i hi).1 (s.wt.a i hi hi).1
  have ho := s.sb.ro i hi
  have hlen := (s.wt.l i hi).1
  rw [e] at ho hlen
  have how := ho.owns (B := 0) (Nat.zero_le _) (by unfold maxLen; omega)
  rw [hlen] at how
  exact .inr ⟨g i, rfl, lt_of ho, lt_of ho, rf_of_owns how (by intro u hu; obtain ⟨_, _, rfl⟩ := List.mem_map.1 hu; rfl)⟩

theorem ck_cell {W : World} {b : Nat} {xs : List Ins} {j : Nat} {u : Value} (h : Ck W b xs) (hu : (xs.flatMap Ins.cells)[j]? = some u) : W.cell? ⟨b, j, none⟩ = some u := by
  obtain ⟨k, c, hc, rfl⟩ : ∃ k c, c < 8 ∧ j = k * 8 + c := ⟨j / 8, j % 8, by omega, by omega⟩
  rw [flat_get Ins.cells 8 ins_cells xs k c hc] at hu
  cases hx : xs[k]? with
  | none => rw [hx] at hu; cases hu
  | some x =>
    rw [hx] at hu
    obtain ⟨a0, a1, a2, a3', a4, a5, a6, a7⟩ := h.2 k x hx
    have h8 : c = 0 ∨ c = 1 ∨ c = 2 ∨ c = 3 ∨ c = 4 ∨ c = 5 ∨ c = 6 ∨ c = 7 := by omega
    rcases h8 with rfl | rfl | rfl | rfl | rfl | rfl | rfl | rfl <;> (simp [Ins.cells] at hu; subst hu; assumption)

theorem gr_code {w1 W : World} {ra rc : Nat} {g c : Nat → Nat} {f h : Nat → Value} {R : Nat → List Int} {X : Nat → List Ins} {rl rm : Nat} {lf lh : Nat → Value} {L M n i : Nat} (s : Se w1 W ra rc g c f h R X rl rm lf lh L M n) (hi : i < 3) (hM : M ≤ 1000000000) :
    Gr W W.heap.size 42 8 (.slice (some ⟨c i, 0, none⟩) M M) (M + 0) ((lcode M i 0).flatMap Ins.cells) := by
  have e : X i = lcode M i 0 := by
    unfold lcode
    rw [List.replicate_zero, List.append_nil]
    exact all_rep (s.wt.l i hi).2 (s.wt.a i hi hi).2
  have hk := s.sb.co i hi
  have hlen := (s.wt.l i hi).2
  rw [e] at hk hlen
  refine .inr ⟨c i, rfl, hk.lt, hk.lt, ?_, all_one _, .inr ⟨_, _, rfl, Nat.le_refl _, by unfold maxLen; omega, fun j u hu => ?_⟩⟩
  · rw [flat_len Ins.cells 8 ins_cells, hlen]; simp
  · rw [add_lit, Nat.zero_add]
    exact ck_cell hk hu

theorem owns_other {w w' : World} {B : Nat} {e e' : TypeId} {m : Nat} {v : Value} {n : Nat} {cs : List Value} {o : Obj} (h : w.ownsRow B e m v n cs) (hw : Wro B e' (w.alloc o) w') (hne : e ≠ e') : w'.ownsRow B e m v n cs := by
  have h1 := ownsRow_kept h (Kept.ofBelow (below1 w o)) (fun _ _ h => h)
  refine ownsRow_kept h1 hw (fun k hk ⟨_, cur, hc⟩ => ?_)
  obtain ⟨cu, hcu⟩ := owns_ty h1 hk
  rw [hcu] at hc
  simp at hc
  exact hne hc.2

theorem gr_step {wa wb w3 w4 : World} {L M n k : Nat} {v3 v4 : Value} {o1 o2 : Obj} (hB : Below wa.heap.size wa wb) (h3 : w3.ownsRow wa.heap.size 5 1 v3 (L + k + 1) (B8 (lrow L n k) ++ B8 [100 + (n : Int)]) ∧ Wro wa.heap.size 5 (wb.alloc o1) w3)
    (h4 : w4.ownsRow wa.heap.size 42 8 v4 (M + k + 1) ((lcode M n k).flatMap Ins.cells ++ [mkO (60 + (n : Int))].flatMap Ins.cells) ∧ Wro wa.heap.size 42 (w3.alloc o2) w4) :
    Below wa.heap.size wa w4 ∧ w4.ownsRow wa.heap.size 5 1 v3 (L + (k + 1)) (B8 (lrow L n (k + 1))) ∧ w4.ownsRow wa.heap.size 42 8 v4 (M + (k + 1)) ((lcode M n (k + 1)).flatMap Ins.cells) := by
  have b1 := below_on hB (below1 wb o1)
  have b2 := b1.trans (h3.2.below b1.size)
  have b3 := below_on b2 (below1 w3 o2)
  have b4 := b3.trans (h4.2.below b3.size)
  refine ⟨b4, ?_, ?_⟩
  · rw [lrow_succ, B8, List.map_append]
    exact owns_other h3.1 h4.2 (by decide)
  · rw [lcode_succ, List.flatMap_append]
    exact h4.1

theorem row_at {W : World} {B L j : Nat} {v : Value} (h : W.ownsRow B 5 1 v (L + 70) (B8 (lrow L j 70))) :
    ∃ b off cap, v = .slice (some ⟨b, off, none⟩) (L + 70) cap ∧ ∀ p, p < L + 70 → W.cell? ⟨b, off + p, none⟩ = some (.int .u8 (if p < L then 10 + (j : Int) else 100 + (j : Int))) := by
  have hl := lrow_len L j 70
  rw [← hl] at h
  obtain ⟨ao, cap, e, _, hx⟩ := sl_of_owns h
  obtain ⟨b, off, rfl, hat⟩ := hx (by intro e2; rw [e2] at hl; simp at hl)
  rw [hl] at e
  exact ⟨b, off, cap, e, fun p hp => hat p _ (lrow_at hp)⟩

theorem code_at {W : World} {B M j : Nat} {v : Value} (h : W.ownsRow B 42 8 v (M + 70) ((lcode M j 70).flatMap Ins.cells)) :
    ∃ b off cap, v = .slice (some ⟨b, off, none⟩) (M + 70) cap ∧ ∀ p, p < M + 70 → W.cell? ⟨b, off + p * 8, none⟩ = some (.int .i64 (if p < M then 30 + (j : Int) else 60 + (j : Int))) := by
  have hl := lcode_len M j 70
  rw [← hl] at h
  obtain ⟨ao, cap, e, _, hx⟩ := code_of_rf (rf_of_owns h (all_one _))
  obtain ⟨b, off, rfl, hat⟩ := hx (by intro e2; rw [e2] at hl; simp at hl)
  rw [hl] at e
  exact ⟨b, off, cap, e, fun p hp => (hat p _ (lcode_at hp)).1⟩

end Go.Proofs.Ytljfmbjibjoiiab
