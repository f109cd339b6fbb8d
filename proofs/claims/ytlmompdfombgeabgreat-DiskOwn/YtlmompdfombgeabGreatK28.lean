import Derived.Test.YtlmompdfombgeabGreatK27
import Derived.ArgAppend
namespace Go.Proofs.YtlmompdfombgeabGreat
open Go.RowKit Go.MapKept

/-- A row that is added to: one's own from B on, or one that is full and lies below. -/
def Gr (W : World) (B : Nat) (e : TypeId) (m : Nat) (v : Value) (n : Nat) (cs : List Value) : Prop :=
  W.ownsRow B e m v n cs ∨ ∃ b, v = .slice (some ⟨b, 0, none⟩) n n ∧ b < B ∧ b < W.heap.size ∧ Rf W m v n cs

/-- Only rows of this type from B on may have been written. -/
def Wro (B : Nat) (e : TypeId) (w w' : World) : Prop := Kept (fun k => B ≤ k ∧ ∃ cur, w.heap[k]? = some (.cells cur e (0, 0))) w w'

theorem Wro.below {B : Nat} {e : TypeId} {w w' : World} (h : Wro B e w w') (hB : B ≤ w.heap.size) : Below B w w' := Kept.below h hB (fun k h1 h2 => by omega)

theorem owns_mono {W : World} {B B' : Nat} {e : TypeId} {m : Nat} {v : Value} {n : Nat} {xs : List Value} (h : W.ownsRow B e m v n xs) (hB : B' ≤ B) : W.ownsRow B' e m v n xs := by
  refine ⟨h.1, ?_⟩
  rcases h.2 with h0 | ⟨g, cap, cur, e1, hb, rest⟩
  · exact .inl h0
  · exact .inr ⟨g, cap, cur, e1, Nat.le_trans hB hb, rest⟩

theorem owns_ty {W : World} {B : Nat} {e : TypeId} {m : Nat} {v : Value} {n : Nat} {xs : List Value} (h : W.ownsRow B e m v n xs) {k : Nat} (hk : v.ownBlock = some k) : ∃ cur, W.heap[k]? = some (.cells cur e (0, 0)) := by
  rcases h.2 with ⟨rfl, _⟩ | ⟨g', cap, cur, rfl, _, hgg, _⟩
  · simp [Value.ownBlock] at hk
  · simp [Value.ownBlock] at hk
    subst hk
    exact ⟨cur, hgg⟩

theorem Gr.other {w w' : World} {B : Nat} {e e' : TypeId} {m : Nat} {v : Value} {n : Nat} {cs : List Value} (h : Gr w B e m v n cs) (hw : Wro B e' w w') (hne : e ≠ e') : Gr w' B e m v n cs := by
  rcases h with h | ⟨b, rfl, hb, hl, hr⟩
  · refine .inl (ownsRow_kept h hw (fun k hk ⟨_, cur, hc⟩ => ?_))
    obtain ⟨cu, hcu⟩ := owns_ty h hk
    rw [hcu] at hc
    simp at hc
    exact hne hc.2
  · refine .inr ⟨b, rfl, hb, Nat.lt_of_lt_of_le hl hw.size, hr.kept hw (fun k hk ⟨h1, _⟩ => ?_)⟩
    simp [Value.ownBlock] at hk
    omega

theorem Gr.alloc {w : World} {B : Nat} {e : TypeId} {m : Nat} {v : Value} {n : Nat} {cs : List Value} (h : Gr w B e m v n cs) (o : Obj) : Gr (w.alloc o) B e m v n cs := by
  have hb := bel_al w o
  rcases h with h | ⟨b, rfl, hb1, hl, hr⟩
  · exact .inl (ownsRow_kept h (Kept.ofBelow hb) (fun _ _ h => h))
  · exact .inr ⟨b, rfl, hb1, Nat.lt_of_lt_of_le hl hb.size, hr.below hb⟩

theorem Gr.shape {w : World} {B : Nat} {e : TypeId} {m : Nat} {v : Value} {n : Nat} {cs : List Value} (h : Gr w B e m v n cs) : ∃ ao c, v = .slice ao n c := by
  rcases h with h | ⟨b, rfl, _⟩
  · exact own_shape h
  · exact ⟨_, _, rfl⟩

set_option maxRecDepth 100000 in
theorem wpList_append_gr (w : World) {ops : Array Oper} {rest : List Oper} {o : Oper} {a : Act} {Q : Exit → Act → World → Prop} (hgd : o.guard = none) (s x : Operand) (t e : TypeId) (z : Value) (m bytes : Nat)
    (ho : o.op = .call { callee := .builtin .append, args := #[s, x], argTypes := #[t, t] }) (ht : Tryz.prog.underlying t = some (.slice e)) (hinfo : (Tryz.prog.info? e).map (fun i => (i.zero, i.size, i.bytes)) = some (some z, m, bytes)) (hzs : z.cells.size = m) (hm : 0 < m)
    (B : Nat) (v : Value) (n : Nat) (xs : List Value) (hs : a.eval s = v) (hg : Gr w B e m v n xs)
    (q c1 : Nat) (ys : List Value) (hx : a.eval x = .slice (some ⟨q, 0, none⟩) 1 c1) (hsn : Rf w m (.slice (some ⟨q, 0, none⟩) 1 c1) 1 ys) (hl : (n + 1) * bytes ≤ 140737488355328) (hl2 : n + 1 ≤ maxLen) (hbase : B ≤ w.heap.size)
    (h : ∀ ao c w', Hid (w'.ownsRow B e m (.slice ao (n + 1) c) (n + 1) (xs ++ ys)) → Hid (Wro B e w w') → wpList Tryz.prog ops Q rest (a.put o.dst (.slice ao (n + 1) c)) w') : wpList Tryz.prog ops Q (o :: rest) a w := by
  rcases hg with hg | ⟨b, rfl, hb, hlt, hr⟩
  · refine wpList_append_rf w hgd s x t e z m bytes ho ht hinfo hzs hm B v n xs hs hg _ 1 ys hx hsn hl hl2 hbase ?_
    intro ao c w' h1 h2 _
    refine h ao c w' h1 (hid ?_)
    exact (Kept.refl _ w).grown h2.out (fun k _ hk => ⟨(hg.lt k hk).1, owns_ty hg hk⟩)
  · obtain ⟨i0, hi, hz0, hz1, hz2⟩ := info_parts hinfo
    obtain ⟨hr1, hr2, hr3⟩ := hr
    obtain ⟨hs1, hs2, hs3⟩ := hsn
    refine wpList_append_grows (P := Tryz.prog) w hgd s x t ho e i0 z m bytes ht hi hz0 hz1 hz2 hzs hm (some ⟨b, 0, none⟩) n n xs hs (fun e => by cases e) hr1 ?_ ⟨q, 0, none⟩ 1 c1 ys hx hs1 ?_ hs2 (by omega) hl2 hl ?_
    · intro b' e j u hu
      injection e with e
      subst e
      rcases hr3 with ⟨e1, _⟩ | ⟨a', cap, e1, _, _, h4⟩
      · cases e1
      · injection e1 with e1 _ _
        injection e1 with e1
        subst e1
        exact h4 j u hu
    · intro j u hu
      rcases hs3 with ⟨e1, _⟩ | ⟨a', cap, e1, _, _, h4⟩
      · cases e1
      · injection e1 with e1 _ _
        injection e1 with e1
        subst e1
        exact h4 j u hu
    · intro v' w' h1 h2
      obtain ⟨ao, c, rfl⟩ := own_shape h1
      refine h ao c w' (hid (owns_mono h1 hbase)) (hid ?_)
      exact (Kept.refl _ w).grown h2 (fun k _ hk => by cases hk)


end Go.Proofs.YtlmompdfombgeabGreat
