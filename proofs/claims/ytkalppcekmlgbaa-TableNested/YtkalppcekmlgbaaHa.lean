import Derived.Test.YtkalppcekmlgbaaGd
namespace Go.Proofs.Ytkalppcekmlgbaa
open Go.RowKit

/-- Two tables and their lists beside one another. -/
structure Tw (w0 w : World) (p a q b : Nat) (t1 : Tr) (vl1 : Value) (l1 : List Pr) (t2 : Tr) (vl2 : Value) (l2 : List Pr) (n : Nat) : Prop where
  s1 : St w0.heap.size w (some ⟨p, 0, none⟩) t1 a vl1 l1
  s2 : St w0.heap.size w (some ⟨q, 0, none⟩) t2 b vl2 l2
  ap : ∀ k, ft (some ⟨p, 0, none⟩) t1 a vl1 k → ¬ ft (some ⟨q, 0, none⟩) t2 b vl2 k
  n1 : l1.length ≤ n
  n2 : l2.length ≤ n
  bl : Below w0.heap.size w0 w

theorem Tw.swap {w0 w : World} {p a q b : Nat} {t1 : Tr} {vl1 : Value} {l1 : List Pr} {t2 : Tr} {vl2 : Value} {l2 : List Pr} {n : Nat} (h : Tw w0 w p a q b t1 vl1 l1 t2 vl2 l2 n) : Tw w0 w q b p a t2 vl2 l2 t1 vl1 l1 n :=
  ⟨h.s2, h.s1, fun k h2 h1 => h.ap k h1 h2, h.n2, h.n1, h.bl⟩

theorem Tw.below {w0 w w' : World} {p a q b : Nat} {t1 : Tr} {vl1 : Value} {l1 : List Pr} {t2 : Tr} {vl2 : Value} {l2 : List Pr} {n : Nat} (h : Tw w0 w p a q b t1 vl1 l1 t2 vl2 l2 n) (hb : Below w.heap.size w w') : Tw w0 w' p a q b t1 vl1 l1 t2 vl2 l2 n :=
  ⟨h.s1.below hb, h.s2.below hb, h.ap, h.n1, h.n2, below_on h.bl hb⟩

theorem Tw.step {w0 w w' : World} {p a q b : Nat} {t1 : Tr} {vl1 : Value} {l1 : List Pr} {t2 : Tr} {vl2 : Value} {l2 : List Pr} {n d : Nat} {t1' : Tr} {vl1' : Value} {l1' : List Pr} (h : Tw w0 w p a q b t1 vl1 l1 t2 vl2 l2 n) (hs : Sq w0.heap.size w w' (some ⟨p, 0, none⟩) t1 a vl1 l1 t1' vl1' l1' d) : Tw w0 w' p a q b t1' vl1' l1' t2 vl2 l2 (n + d) := by
  refine ⟨hs.st, h.s2.kept hs.kp (fun k hk e => h.ap k e hk), fun k h1 h2 => ?_, by have := hs.ln; have := h.n1; omega, by have := h.n2; omega, st_kept rfl h.bl h.s1 hs.kp⟩
  rcases hs.nw k h1 with h3 | h3
  · exact h.ap k h3 h2
  · have := (h.s2.lt k h2).2
    omega

/-- One element of a list, as a list. -/
theorem Rf.one {w : World} {m : Nat} {n : Nat} {ys : List Sx} {gb off cap k : Nat} (h : Rf w 5 (.slice (some ⟨gb, off, none⟩) n cap) n (ys.flatMap Sx.cells)) (hk : k < ys.length) (hn : n = ys.length) (hm : m = off + k * 5) : Rf w 5 (.slice (some ⟨gb, m, none⟩) 1 (cap - k)) 1 ([ys[k]].flatMap Sx.cells) := by
  subst hm hn
  obtain ⟨h0, h1, h2⟩ := h
  rcases h2 with ⟨h3, -⟩ | ⟨a, c, h3, h4, h5, h6⟩
  · cases h3
  · injection h3 with e1 e2 e3
    injection e1 with e1
    subst e1 e3
    refine ⟨rfl, ?_, .inr ⟨_, _, rfl, by omega, by omega, fun j u hu => ?_⟩⟩
    · intro u hu
      simp [Sx.cells] at hu
      rcases hu with rfl | rfl | rfl | rfl | rfl <;> rfl
    · have hj : j < 5 := by
        rcases Nat.lt_or_ge j 5 with hj | hj
        · exact hj
        · rw [List.getElem?_eq_none (by simpa [Sx.cells] using hj)] at hu; cases hu
      have := h6 (k * 5 + j) u (by rw [flat_get Sx.cells 5 Sx.len ys k j hj, List.getElem?_eq_getElem hk]; simpa using hu)
      rw [add_lit] at this ⊢
      rwa [Nat.add_assoc]

end Go.Proofs.Ytkalppcekmlgbaa
