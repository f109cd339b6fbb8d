import Derived.Test.YtamajeagmkjjbaaLays2
import Derived.Test.YtamajeagmkjjbaaBrow
import Derived.ArgAppend
namespace Go.Proofs.Ytamajeagmkjjbaa
open Go.RowKit

/-- The blocks of a Writer and of the document's beside it. -/
def Fp (p q : Nat) (g o : Option Nat) (k : Nat) : Prop := k = p ∨ k = q ∨ g = some k ∨ o = some k

/-- The block of a row that begins there. -/
def ob (ao : Option Addr) : Option Nat := (Value.slice ao 0 0).ownBlock

theorem ob_own (ao : Option Addr) (n c : Nat) : (Value.slice ao n c).ownBlock = ob ao := by
  cases ao <;> rfl

theorem LS.inF {w0 w : World} {p q : Nat} {g : Option Nat} {ao : Option Addr} {c : Nat} {s t : List Int × Int} (h : LS w0 w p q g ao c s t) : ∀ k, Fp p q g (ob ao) k → k < w.heap.size := by
  rintro k (e | e | e | e)
  · have := h.ge; omega
  · have := h.ge; omega
  · exact (h.wr.glt k e).2
  · rw [← ob_own ao t.1.length c] at e
    exact (h.sep.2 k e).2.2.2

theorem LS.kept {w0 w w' : World} {p q : Nat} {g : Option Nat} {ao : Option Addr} {c : Nat} {s t : List Int × Int} {S : Nat → Prop} (h : LS w0 w p q g ao c s t) (hk : Kept S w w') (hS : ∀ k, S k → w0.heap.size ≤ k ∧ ¬ Fp p q g (ob ao) k) : LS w0 w' p q g ao c s t := by
  have hz := hk.size
  obtain ⟨g1, g2, g3, g4, g5⟩ := h.ge
  refine ⟨h.wr.kept hk (fun e => (hS _ e).2 (.inl rfl)) (fun k hk2 e => (hS _ e).2 (.inr (.inr (.inl hk2)))), ?_, h.sn.kept hk ?_, h.bel.trans (hk.below h.bel.size ?_), ⟨g1, g2, g3, by omega, by omega⟩, h.sep.1, ?_⟩
  · rw [hk.block q g5 (fun e => (hS _ e).2 (.inr (.inl rfl)))]
    exact h.xb
  · intro k hk2 e
    rw [ob_own] at hk2
    exact (hS _ e).2 (.inr (.inr (.inr hk2)))
  · intro k hk2 e
    have := (hS _ e).1
    omega
  · intro k hk2
    obtain ⟨a, b, c, d⟩ := h.sep.2 k hk2
    exact ⟨a, b, c, by omega⟩

/-- Two Writers, and the document's two, each its own. -/
structure Two (w0 w : World) (p1 q1 : Nat) (g1 : Option Nat) (ao1 : Option Addr) (c1 : Nat) (s1 t1 : List Int × Int) (p2 q2 : Nat) (g2 : Option Nat) (ao2 : Option Addr) (c2 : Nat) (s2 t2 : List Int × Int) : Prop where
  l1 : LS w0 w p1 q1 g1 ao1 c1 s1 t1
  l2 : LS w0 w p2 q2 g2 ao2 c2 s2 t2
  dis : ∀ k, Fp p1 q1 g1 (ob ao1) k → ¬ Fp p2 q2 g2 (ob ao2) k

section
variable {w0 w w' : World} {p1 q1 : Nat} {g1 : Option Nat} {ao1 : Option Addr} {c1 : Nat} {s1 t1 : List Int × Int} {p2 q2 : Nat} {g2 : Option Nat} {ao2 : Option Addr} {c2 : Nat} {s2 t2 : List Int × Int}

theorem Two.swap (h : Two w0 w p1 q1 g1 ao1 c1 s1 t1 p2 q2 g2 ao2 c2 s2 t2) : Two w0 w p2 q2 g2 ao2 c2 s2 t2 p1 q1 g1 ao1 c1 s1 t1 :=
  ⟨h.l2, h.l1, fun k a b => h.dis k b a⟩

theorem Two.still (h : Two w0 w p1 q1 g1 ao1 c1 s1 t1 p2 q2 g2 ao2 c2 s2 t2) (hb : Below w.heap.size w w') : Two w0 w' p1 q1 g1 ao1 c1 s1 t1 p2 q2 g2 ao2 c2 s2 t2 :=
  ⟨h.l1.still hb, h.l2.still hb, h.dis⟩

/-- What lies above is none of theirs. -/
theorem Two.above (h : Two w0 w p1 q1 g1 ao1 c1 s1 t1 p2 q2 g2 ao2 c2 s2 t2) (hk : Kept (fun k => w.heap.size ≤ k) w w') : Two w0 w' p1 q1 g1 ao1 c1 s1 t1 p2 q2 g2 ao2 c2 s2 t2 := by
  have hz := h.l1.bel.size
  refine ⟨h.l1.kept hk ?_, h.l2.kept hk ?_, h.dis⟩
  · intro k hk2
    exact ⟨by omega, fun hf => by have := h.l1.inF k hf; omega⟩
  · intro k hk2
    exact ⟨by omega, fun hf => by have := h.l2.inF k hf; omega⟩

theorem Two.lay (h : Two w0 w p1 q1 g1 ao1 c1 s1 t1 p2 q2 g2 ao2 c2 s2 t2) {s : List Int × Int} (hs : WrStep w0.heap.size p1 g1 w w' s.1 s.2) : ∃ g, Two w0 w' p1 q1 g ao1 c1 s t1 p2 q2 g2 ao2 c2 s2 t2 := by
  have hs' := hs
  obtain ⟨g', k1, k2, k3⟩ := hs'
  have hgl := h.l1.wr.glt
  have hge := h.l1.ge
  obtain ⟨e1, e2, e3, e4, e5⟩ := h.l1.ge
  have hz := k3.size
  have hl2 : LS w0 w' p2 q2 g2 ao2 c2 s2 t2 := h.l2.kept k3 (by
    rintro k (e | e)
    · subst e; exact ⟨e1, h.dis _ (.inl rfl)⟩
    · exact ⟨(hgl k e).1, h.dis _ (.inr (.inr (.inl e)))⟩)
  refine ⟨g', ⟨k1, ?_, h.l1.sn.kept k3 ?_, h.l1.bel.trans (k3.below (by have := h.l1.bel.size; omega) ?_), ⟨e1, e2, e3, by omega, by omega⟩, ?_, ?_⟩, hl2, ?_⟩
  · rw [k3.block q1 e5 (by rintro (e | e); exact e3 e.symm; exact h.l1.sep.1 q1 e rfl)]
    exact h.l1.xb
  · rintro k hk2 (e | e)
    · exact (h.l1.sep.2 k hk2).1 e
    · exact (h.l1.sep.2 k hk2).2.2.1 e
  · rintro k hk2 (e | e)
    · omega
    · have := hgl k e; omega
  · intro k e
    rcases k2 with rfl | ⟨j, h2, rfl⟩
    · exact h.l1.sep.1 k e
    · injection e with e; omega
  · intro k hk2
    obtain ⟨a, b, cc, d⟩ := h.l1.sep.2 k hk2
    refine ⟨a, b, ?_, by omega⟩
    rcases k2 with rfl | ⟨j, h2, rfl⟩
    · exact cc
    · intro e; injection e with e; omega
  · rintro k (e | e | e | e) hf
    · exact h.dis k (.inl e) hf
    · exact h.dis k (.inr (.inl e)) hf
    · rcases k2 with rfl | ⟨j, h2, rfl⟩
      · exact h.dis k (.inr (.inr (.inl e))) hf
      · injection e with e
        have := h.l2.inF k hf
        omega
    · exact h.dis k (.inr (.inr (.inr e))) hf

theorem Two.laid (h : Two w0 w p1 q1 g1 ao1 c1 s1 t1 p2 q2 g2 ao2 c2 s2 t2) {ao : Option Addr} {c : Nat} {t : List Int × Int} (hb : Below w.heap.size w w')
    (hs : Sn w' (.slice ao t.1.length c) t.1) (hf : Value.slice ao t.1.length c = .slice ao1 t1.1.length c1 ∨ ∀ k, (Value.slice ao t.1.length c).ownBlock = some k → w.heap.size ≤ k ∧ k < w'.heap.size) :
    Two w0 ((w'.setCell ⟨q1, 0, none⟩ (.slice ao t.1.length c)).setCell ⟨q1, 1, none⟩ (.int .i64 t.2)) p1 q1 g1 ao c s1 t p2 q2 g2 ao2 c2 s2 t2 := by
  have hk : Kept (fun k => k = q1) w' ((w'.setCell ⟨q1, 0, none⟩ (.slice ao t.1.length c)).setCell ⟨q1, 1, none⟩ (.int .i64 t.2)) :=
    ((Kept.refl (fun k => k = q1) w').setCell (p := ⟨q1, 0, none⟩) (fun _ => rfl) _).setCell (p := ⟨q1, 1, none⟩) (fun _ => rfl) _
  refine ⟨LS.laid h.l1 hb hs hf, (h.l2.still hb).kept hk ?_, ?_⟩
  · intro k e
    subst e
    exact ⟨h.l1.ge.2.1, h.dis _ (.inr (.inl rfl))⟩
  · rintro k (e | e | e | e) hf2
    · exact h.dis k (.inl e) hf2
    · exact h.dis k (.inr (.inl e)) hf2
    · exact h.dis k (.inr (.inr (.inl e))) hf2
    · rcases hf with e2 | e2
      · injection e2 with e2 e3 e4
        subst e2
        exact h.dis k (.inr (.inr (.inr e))) hf2
      · rw [← ob_own ao t.1.length c] at e
        have := e2 k e
        have := h.l2.inF k hf2
        omega

end

theorem Own.set {w : World} {g : Nat} {xs : List Int} (h : Own w g xs) (j : Nat) (y : Int) : Own (w.setCell ⟨g, j, none⟩ (.int .u8 y)) g (xs.set j y) := by
  unfold Own at h ⊢
  simp [World.setCell, Array.getElem?_modify, h, B8, List.map_set]

theorem Own.cell {w : World} {g : Nat} {xs : List Int} (h : Own w g xs) {j : Nat} {x : Int} (hx : xs[j]? = some x) : w.cell? ⟨g, j, none⟩ = some (.int .u8 x) := h.brow.cell hx

/-- The first k turned to y. -/
def turned (k : Nat) (y : Int) (xs : List Int) : List Int := List.replicate k y ++ xs.drop k

theorem turned_zero (y : Int) (xs : List Int) : turned 0 y xs = xs := by simp [turned]
theorem turned_all (y : Int) (xs : List Int) : turned xs.length y xs = List.replicate xs.length y := by simp [turned]
theorem turned_len (k : Nat) (y : Int) (xs : List Int) (h : k ≤ xs.length) : (turned k y xs).length = xs.length := by simp [turned]; omega
theorem turned_succ (k : Nat) (y : Int) (xs : List Int) (h : k < xs.length) : (turned k y xs).set k y = turned (k + 1) y xs := by
  unfold turned
  rw [List.set_append_right _ _ (by simp), List.length_replicate, Nat.sub_self, List.drop_eq_getElem_cons h, List.set_cons_zero, List.replicate_succ', List.append_assoc]
  rfl

/-- A row that was gone on from: the same memory as at first, or its own. -/
def Dd (w : World) (H : Nat) (ga n : Nat) (xs0 : List Int) (j : Nat) (y : Int) (v : Value) : Prop :=
  (j = 0 ∧ v = .slice (some ⟨ga, 0, none⟩) n n) ∨ w.ownsRow H 5 1 v (n + j) (B8 (xs0 ++ List.replicate j y))

theorem append_dd (w : World) (ty : TypeId) (H ga n : Nat) (xs0 : List Int) (j : Nat) (y : Int) (v : Value) (ho : Own w ga xs0) (hn : xs0.length = n) (_hg : ga < H) (hH : H ≤ w.heap.size) (hd : Dd w H ga n xs0 j y v) (b : Nat) (hb : w.heap[b]? = some (.cells #[.int .u8 y] 5 (0, 0))) (hl : n + j ≤ 1000000000) :
    ∃ v' w', (Builtin.append_ #[26, 26] ty #[v, .slice (some ⟨b, 0, none⟩) 1 1]).run Try.prog w = .ok v' w' ∧ w'.ownsRow H 5 1 v' (n + (j + 1)) (B8 (xs0 ++ List.replicate (j + 1) y)) ∧ Kept (fun k => H ≤ k ∧ v.ownBlock = some k) w w' ∧ (v'.ownBlock = v.ownBlock ∨ ∃ k, w.heap.size ≤ k ∧ v'.ownBlock = some k) := by
  have hsn : Sn w (.slice (some ⟨b, 0, none⟩) 1 1) [y] := ⟨(show Own w b [y] from hb).sl (by simp), .inr ⟨_, _, _, rfl⟩⟩
  rcases hd with ⟨rfl, rfl⟩ | hown
  · obtain ⟨i0, hi, hz0, hz1, hz2⟩ := info_parts Try.info5
    obtain ⟨v', w', hr, h1, h2⟩ := run_append_arg_grows (P := Try.prog) w 26 ty 5 i0 (.int .u8 0) 1 1 Try.underlying26 hi hz0 hz1 hz2 rfl (by omega) ⟨ga, 0, none⟩ n n (B8 xs0) (by simp [hn]) (by
        intro j u hu
        rw [List.getElem?_map, Option.map_eq_some_iff] at hu
        obtain ⟨x, hx, rfl⟩ := hu
        rw [add_lit, Nat.zero_add]
        exact ho.cell hx) ⟨b, 0, none⟩ 1 1 (B8 [y]) (by simp) (by
        intro j u hu
        rw [List.getElem?_map, Option.map_eq_some_iff] at hu
        obtain ⟨x, hx, rfl⟩ := hu
        rw [add_lit, Nat.zero_add]
        exact (show Own w b [y] from hb).cell hx) (by omega) (by unfold maxLen; omega) (by omega)
    refine ⟨v', w', hr, ?_, ⟨h2.os, h2.tape, h2.output, h2.size, fun k hk _ => h2.block k hk (by simp)⟩, ?_⟩
    · have e : B8 (xs0 ++ List.replicate (0 + 1) y) = B8 xs0 ++ B8 [y] := by simp [B8]
      rw [e]
      refine ⟨h1.1, ?_⟩
      rcases h1.2 with ⟨e1, e2⟩ | ⟨g, cap, cur, e1, e2, e3, e4⟩
      · omega
      · exact .inr ⟨g, cap, cur, e1, by omega, e3, e4⟩
    · right
      rcases h1.2 with ⟨e1, e2⟩ | ⟨g, cap, cur, e1, e2, e3, e4⟩
      · omega
      · exact ⟨g, e2, by rw [e1]; rfl⟩
  · obtain ⟨v', w', hr, h1, h2, h3⟩ := append_sn w ty H v (n + j) (xs0 ++ List.replicate j y) hown _ [y] hsn (by simp; omega) hH
    have hlt := hown.lt
    refine ⟨v', w', hr, ?_, ⟨h2.os, h2.tape, h2.output, h2.size, fun k hk hS => h2.block k hk (fun e => hS ⟨(hlt k e.symm).1, e.symm⟩)⟩, ?_⟩
    · have e : xs0 ++ List.replicate (j + 1) y = (xs0 ++ List.replicate j y) ++ [y] := by rw [List.replicate_succ', List.append_assoc]
      rw [e]
      exact h1
    · rcases h3 with h3 | h3
      · exact .inl h3
      · exact .inr ⟨_, Nat.le_refl _, h3⟩

theorem wpList_append_dd (w : World) {ops : Array Oper} {rest : List Oper} {o : Oper} {a : Act} {Q : Exit → Act → World → Prop} (hgd : o.guard = none) (s x : Operand)
    (hop : o.op = .call { callee := .builtin .append, args := #[s, x], argTypes := #[26, 26] }) (H ga n : Nat) (xs0 : List Int) (j : Nat) (y : Int) (v : Value) (hs : a.eval s = v) (b : Nat) (hx : a.eval x = .slice (some ⟨b, 0, none⟩) 1 1) (ho : Own w ga xs0) (hn : xs0.length = n) (hg : ga < H) (hH : H ≤ w.heap.size) (hd : Dd w H ga n xs0 j y v) (hb : w.heap[b]? = some (.cells #[.int .u8 y] 5 (0, 0))) (hl : n + j ≤ 1000000000)
    (h : ∀ v' w', Hid (w'.ownsRow H 5 1 v' (n + (j + 1)) (B8 (xs0 ++ List.replicate (j + 1) y))) → Hid (Kept (fun k => H ≤ k ∧ v.ownBlock = some k) w w') → Hid (v'.ownBlock = v.ownBlock ∨ ∃ k, w.heap.size ≤ k ∧ v'.ownBlock = some k) → wpList Try.prog ops Q rest (a.put o.dst v') w') : wpList Try.prog ops Q (o :: rest) a w := by
  refine wpList_plain hgd fun K hK => ?_
  obtain ⟨v', w', hr, h2, h3, h4⟩ := append_dd w o.type H ga n xs0 j y v ho hn hg hH hd b hb hl
  unfold Oper.wp execOp
  simp only [hop, resolve, invoke, builtin, Sem.run_bind, Sem.run_pure, Result.andThen_ok, List.map_toArray, List.map_cons, List.map_nil, hs, hx, hr]
  exact hK _ _ (h v' w' (hid h2) (hid h3) (hid h4))

end Go.Proofs.Ytamajeagmkjjbaa
