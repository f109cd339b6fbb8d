import Derived.Test.YtkalppcekmlgbabVsPe
namespace Go.Proofs.Ytkalppcekmlgbab.Vs
open Go.RowKit

theorem del_append (k : ByteArray) (a b : List En) : del k (a ++ b) = del k a ++ del k b := by simp [del]
theorem del_none {k : ByteArray} {l : List En} (h : ∀ e ∈ l, e.2.1 ≠ k) : del k l = l := by
  unfold del
  rw [List.filter_eq_self]
  intro e he
  simp [keq_false (h e he)]
theorem Rises.left {a b : List En} (h : Rises (a ++ b)) : Rises a := (List.pairwise_append.1 h).1
theorem Rises.right {a b : List En} (h : Rises (a ++ b)) : Rises b := (List.pairwise_append.1 h).2.1
theorem Rises.tail {c : En} {b : List En} (h : Rises (c :: b)) : Rises b := (List.pairwise_cons.1 h).2
theorem Rises.lo {a b : List En} {c : En} (h : Rises (a ++ c :: b)) : ∀ e ∈ a, kl e.2.1 c.2.1 = true := fun e he => (List.pairwise_append.1 h).2.2 e he c (by simp)
theorem Rises.hi {b : List En} {c : En} (h : Rises (c :: b)) : ∀ e ∈ b, kl c.2.1 e.2.1 = true := (List.pairwise_cons.1 h).1

theorem del_low {k : ByteArray} {a b : List En} {c : En} (h : Rises (a ++ c :: b)) (hk : kl k c.2.1 = true) : del k (a ++ c :: b) = del k a ++ c :: b := by
  rw [del_append, del_none (l := c :: b)]
  intro e he
  rcases List.mem_cons.1 he with rfl | he
  · exact (kl_ne hk).symm
  · exact (kl_ne (kl_trans hk (h.right.hi e he))).symm
theorem del_high {k : ByteArray} {a b : List En} {c : En} (h : Rises (a ++ c :: b)) (hk : kl c.2.1 k = true) : del k (a ++ c :: b) = a ++ c :: del k b := by
  have : a ++ c :: b = (a ++ [c]) ++ b := by simp
  rw [this, del_append, del_none (l := a ++ [c])]
  · simp
  intro e he
  rcases List.mem_append.1 he with he | he
  · exact kl_ne (kl_trans (h.lo e he) hk)
  · rw [List.mem_singleton] at he; subst he; exact kl_ne hk
theorem del_mid {a b : List En} {c : En} (h : Rises (a ++ c :: b)) : del c.2.1 (a ++ c :: b) = a ++ b := by
  rw [del_append, show c :: b = [c] ++ b from rfl, del_append, del_none (l := a) (fun e he => kl_ne (h.lo e he)), del_none (l := b) (fun e he => (kl_ne (h.right.hi e he)).symm)]
  simp [del]

theorem mem_del {k : ByteArray} {l : List En} {e : En} (h : e ∈ del k l) : e ∈ l := (List.mem_filter.1 h).1
theorem Rises.del {l : List En} (h : Rises l) (k : ByteArray) : Rises (del k l) := List.Pairwise.filter _ h
theorem blks_del_sub {l : List En} {k : ByteArray} : (blks (del k l)).Sublist (blks l) := (List.filter_sublist).map _

/-- without, as it is asked of a tree. -/
abbrev WoSays (t : Tr) : Prop := ∀ (w : World) (key : ByteArray), t.At 66 w → Rises t.toL → t.bs.Nodup → t.n ≤ 700000 → (∃ e ∈ t.toL, e.2.1 = key) → Calls Try.prog 120 #[t.ptr, .string key] w (TPost (del key t.toL) w)

theorem bs_of {t : Tr} {L : List En} (e : t.toL = L) : t.bs = blks L := by unfold Tr.bs; rw [e]
theorem n_of {t : Tr} {L : List En} (e : t.toL = L) : t.n = L.length := by unfold Tr.n; rw [e]

theorem Tr.At.mem {w : World} : ∀ {t : Tr}, t.At 66 w → ∀ b k v, (b, k, v) ∈ t.toL → ∃ p q h, Nd w b k v (.pointer p) (.pointer q) (.int .i64 h)
  | .nil, _ => by simp [Tr.toL]
  | .node b k v l r, h => by
    obtain ⟨h0, h1, h2⟩ := h
    intro b' k' v' hm
    simp only [Tr.toL, List.mem_append, List.mem_cons] at hm
    rcases hm with hm | hm | hm
    · exact h1.mem b' k' v' hm
    · simp only [Prod.mk.injEq] at hm
      obtain ⟨rfl, rfl, rfl⟩ := hm
      exact ⟨_, _, _, h0⟩
    · exact h2.mem b' k' v' hm

end Go.Proofs.Ytkalppcekmlgbab.Vs
