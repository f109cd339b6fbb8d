import Derived.Test.YtkalppcekmlgbabRc
namespace Go.Proofs.Ytkalppcekmlgbab
open Go.RowKit

theorem kl_empty (a : ByteArray) : kl a ⟨#[]⟩ = false := by
  cases h : kl a ⟨#[]⟩
  · rfl
  · simp only [kl, bl_eq, decide_eq_true_eq] at h
    rw [show (⟨#[]⟩ : ByteArray).toList = [] by simp [Lib.toList_data]] at h
    exact absurd h (by simp)

theorem empty_kl {a : ByteArray} (h : a ≠ ⟨#[]⟩) : kl ⟨#[]⟩ a = true := by
  cases h1 : kl ⟨#[]⟩ a
  · exact absurd (kl_tri (kl_empty a) h1) h
  · rfl

/-- The key behind one in the list. -/
theorem gtr_at {l : List En} (h : Rises l) (i : Nat) (hi : i < l.length) : gtrE l[i].2.1 l = l[i + 1]? := by
  have h1 : (l.take (i + 1)).find? (fun e => kl l[i].2.1 e.2.1) = none := by
    rw [List.find?_eq_none]
    intro x hx hk
    obtain ⟨j, hj, rfl⟩ := List.getElem_of_mem hx
    rw [List.length_take] at hj
    rw [List.getElem_take] at hk
    rcases Nat.lt_or_ge j i with hji | hji
    · have := List.pairwise_iff_getElem.1 h j i (by omega) hi hji
      rw [kl_asymm this] at hk
      cases hk
    · have : j = i := by omega
      subst this
      rw [kl_irrefl] at hk
      cases hk
  have h2 : (l.drop (i + 1)).find? (fun e => kl l[i].2.1 e.2.1) = l[i + 1]? := by
    rcases Nat.lt_or_ge (i + 1) l.length with h3 | h3
    · rw [List.drop_eq_getElem_cons h3, List.find?_cons, List.getElem?_eq_getElem h3]
      have := List.pairwise_iff_getElem.1 h i (i + 1) hi h3 (by omega)
      rw [this]
    · rw [List.drop_eq_nil_of_le h3, List.getElem?_eq_none h3]
      rfl
  have h3 : ∀ f : En → Bool, l.find? f = ((l.take (i + 1)).find? f).or ((l.drop (i + 1)).find? f) := fun f => by
    rw [← List.find?_append, List.take_append_drop]
  unfold gtrE
  rw [h3, h1, h2]
  rfl

theorem geq_first (l : List En) : geqE ⟨#[]⟩ l = l[0]? := by
  cases l with
  | nil => rfl
  | cons c l =>
    unfold geqE
    rw [List.find?_cons]
    simp only [kl_empty c.2.1]
    rfl

theorem gtr_first {l : List En} (h : Rises l) (hn : ∀ h0 : 0 < l.length, l[0].2.1 ≠ ⟨#[]⟩) : gtrE ⟨#[]⟩ l = l[0]? := by
  cases l with
  | nil => rfl
  | cons c l =>
    have : kl ⟨#[]⟩ c.2.1 = true := empty_kl (hn (by simp))
    unfold gtrE
    rw [List.find?_cons]
    simp only [this]
    rfl

/-- What a table holds behind a Put. -/
theorem put_mem {w w' : World} {p : Nat} {t t' : Tr} {key : ByteArray} {u : Value} (ht : Tb w p t) (h : PutP w w' p t t' key u) : (∀ e ∈ t'.toL, (e.2.1 = key ∧ e.2.2 = u) ∨ ∃ e0 ∈ t.toL, e0.2.1 = e.2.1 ∧ e0.2.2 = e.2.2) ∧ t'.toL.length ≤ t.toL.length + 1 := by
  rcases h.ls with ⟨c, hc, hl⟩ | ⟨hc, m, hl⟩
  · rw [hl]
    refine ⟨fun e he => ?_, by simp⟩
    obtain ⟨x, hx, rfl⟩ := List.mem_map.1 he
    by_cases hxe : x.1 = c.1
    · rw [if_pos hxe]
      have hcm := (ent_some hc).1
      have : x = c := by
        have hnd := ht.nd
        unfold Tr.bs blks at hnd
        obtain ⟨i, hi, rfl⟩ := List.getElem_of_mem hx
        obtain ⟨j, hj, rfl⟩ := List.getElem_of_mem hcm
        have h1 : (t.toL.map (·.1))[i]'(by simpa using hi) = (t.toL.map (·.1))[j]'(by simpa using hj) := by simpa using hxe
        have := (List.getElem_inj hnd).1 h1
        subst this
        rfl
      subst this
      exact .inl ⟨(ent_some hc).2, rfl⟩
    · rw [if_neg hxe]
      exact .inr ⟨x, hx, rfl, rfl⟩
  · rw [hl]
    have hp := ins_perm (m, key, u) t.toL
    refine ⟨fun e he => ?_, by rw [hp.length_eq]; simp⟩
    rcases List.mem_cons.1 (hp.mem_iff.1 he) with h1 | h1
    · subst h1; exact .inl ⟨rfl, rfl⟩
    · exact .inr ⟨e, h1, rfl, rfl⟩

/-- What each key has: its place in the list of keys. -/
structure Kz (ks : List ByteArray) (j : Nat) (t : Tr) : Prop where
  at_ : ∀ e ∈ t.toL, ∃ i, i < j ∧ e.2.2 = .int .i64 (i : Nat) ∧ ks[i]? = some e.2.1
  ln : t.toL.length ≤ j

theorem Kz.nil (ks : List ByteArray) : Kz ks 0 .nil := ⟨fun e he => (by cases he), Nat.le_refl _⟩

theorem Kz.put {ks : List ByteArray} {j : Nat} {w w' : World} {p : Nat} {t t' : Tr} {key : ByteArray} (h : Kz ks j t) (ht : Tb w p t) (hp : PutP w w' p t t' key (.int .i64 (j : Nat))) (hk : ks[j]? = some key) : Kz ks (j + 1) t' := by
  obtain ⟨h1, h2⟩ := put_mem ht hp
  refine ⟨fun e he => ?_, by have := h.ln; omega⟩
  rcases h1 e he with ⟨e1, e2⟩ | ⟨e0, hm, e1, e2⟩
  · exact ⟨j, by omega, e2, by rw [e1]; exact hk⟩
  · obtain ⟨i, hi, hv, hks⟩ := h.at_ e0 hm
    exact ⟨i, by omega, by rw [← e2]; exact hv, by rw [← e1]; exact hks⟩

theorem Kz.short {ks : List ByteArray} {j : Nat} {t : Tr} (h : Kz ks j t) (hs : ∀ k ∈ ks, k.size ≤ 281474976710656) : Short t := by
  intro e he
  obtain ⟨i, _, _, hk⟩ := h.at_ e he
  exact hs _ (List.mem_of_getElem? hk)

end Go.Proofs.Ytkalppcekmlgbab
