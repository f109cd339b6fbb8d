import Derived.Test.YtkalppcekmlgbaaRb
namespace Go.Proofs.Ytkalppcekmlgbaa
open Go.RowKit

/-- How many are still ahead. -/
def ahead (st : Bool) (last : ByteArray) (l : List Pr) : Nat := l.countP (fun e => if st then kl last e.1 else !kl e.1 last)

theorem count_less {α : Type} {p q : α → Bool} : ∀ {l : List α} {x : α}, (∀ y ∈ l, p y = true → q y = true) → x ∈ l → q x = true → p x = false → l.countP p < l.countP q
  | [], _, _, h, _, _ => by cases h
  | a :: l, x, hpq, hx, hq, hp => by
    have hle : l.countP p ≤ l.countP q := List.countP_mono_left (fun y hy => hpq y (by simp [hy]))
    rw [List.countP_cons, List.countP_cons]
    rcases List.mem_cons.1 hx with e | hx
    · subst e
      rw [hq, hp]
      simp only [if_true, Bool.false_eq_true, if_false]
      omega
    · have := count_less (fun y hy => hpq y (by simp [hy])) hx hq hp
      have h1 := hpq a (by simp)
      cases h2 : p a <;> cases h3 : q a <;> simp_all <;> omega

/-- What comes next, of the document's list. -/
theorem nx_book {t : Tr} {l : List Pr} (h : Mt t l) (hr : Rises t.toL) (st : Bool) (last : ByteArray) :
    (match nx st last t.toL with | some e => Value.tuple #[.string e.2.1, .bool true] | none => .tuple #[.string ⟨#[]⟩, .bool false]) = if st then bnextV last l else bleastV last l := by
  cases st
  · have h1 := h.find (fun k => !kl k last)
    rw [find_geq last l] at h1
    unfold nx bleastV
    simp only [Bool.false_eq_true, if_false]
    rw [show t.toL.find? (fun e => !kl e.2.1 last) = geqE last t.toL from rfl] at h1
    cases e1 : geqE last t.toL with
    | none =>
      rw [e1] at h1
      cases e2 : l[plc last l]? with
      | none => rfl
      | some p => rw [e2] at h1; simp at h1
    | some e =>
      rw [e1] at h1
      cases e2 : l[plc last l]? with
      | none => rw [e2] at h1; simp at h1
      | some p =>
        rw [e2] at h1
        simp only [Option.map_some, Option.some.injEq] at h1
        show Value.tuple #[Value.string e.2.1, Value.bool true] = _
        rw [h1]
        rfl
  · exact h.next hr last

theorem nx_pred {st : Bool} {last : ByteArray} {l : List En} {e : En} (h : nx st last l = some e) : (if st then kl last e.2.1 else !kl e.2.1 last) = true := by
  unfold nx at h
  cases st
  · exact List.find?_some (p := fun e : En => !kl e.2.1 last) h
  · exact List.find?_some (p := fun e : En => kl last e.2.1) h

theorem ahead_less {t : Tr} {l : List Pr} (h : Mt t l) {st : Bool} {last : ByteArray} {b : Nat} {k : ByteArray} {v : Value} (hq : nx st last t.toL = some (b, k, v)) : ∃ n, v = .int .i64 n ∧ (k, n) ∈ l ∧ ahead true k l < ahead st last l := by
  have hm : (k, v) ∈ t.toL.map (fun e => e.2) := List.mem_map.2 ⟨_, nx_mem hq, rfl⟩
  rw [h] at hm
  obtain ⟨p, hp, he⟩ := List.mem_map.1 hm
  have e1 : p.1 = k := congrArg (fun x => x.1) he
  have e2 : Value.int .i64 p.2 = v := congrArg (fun x => x.2) he
  have hk := nx_pred hq
  simp only at hk
  refine ⟨p.2, e2.symm, by rw [← e1]; exact hp, ?_⟩
  refine count_less (x := p) (fun y _ hy => ?_) hp (by rw [e1]; exact hk) (by rw [e1]; exact kl_irrefl _)
  simp only [if_true] at hy
  cases st
  · simp only [Bool.false_eq_true, if_false] at hk ⊢
    have : kl k last = false := by simpa using hk
    simp [kl_asymm (kl_le' this hy)]
  · simp only [if_true] at hk ⊢
    exact kl_trans hk hy

theorem riseL_uniq : ∀ {l : List Pr} {p q : Pr}, RiseL l → p ∈ l → q ∈ l → p.1 = q.1 → p = q
  | [], _, _, _, h, _, _ => by cases h
  | c :: l, p, q, hr, hp, hq, e => by
    rcases List.mem_cons.1 hp with h1 | h1 <;> rcases List.mem_cons.1 hq with h2 | h2
    · rw [h1, h2]
    · exact absurd e (kl_ne (h1 ▸ hr.hi q h2))
    · exact absurd e (kl_ne (h2 ▸ hr.hi p h1)).symm
    · exact riseL_uniq hr.tail h1 h2 e

theorem get_of_mem {t : Tr} {l : List Pr} (h : Mt t l) (hr : Rises t.toL) {k : ByteArray} {n : Int} (hm : (k, n) ∈ l) : bgetV k l = .tuple #[.int .i64 n, .bool true] := by
  have h2 := find_eq k (h.rises hr)
  unfold bgetV
  cases e : l[plc k l]? with
  | none =>
    rw [e] at h2
    have := List.find?_eq_none.1 h2 _ hm
    simp at this
  | some p =>
    rw [e] at h2
    by_cases hk : p.1 = k
    · have hp : p ∈ l := List.mem_of_getElem? e
      have : p = (k, n) := riseL_uniq (h.rises hr) hp hm hk
      rw [this]
      simp
    · simp only [hk, if_false] at h2
      have := List.find?_eq_none.1 h2 _ hm
      simp at this

theorem Rf.keptE {w w' : World} {m : Nat} {v : Value} {n : Nat} {cs : List Value} {S : Nat → Prop} (h : Rf w m v n cs) (hk : Kept S w w') (hn : cs ≠ [] → ∀ k, v.ownBlock = some k → ¬ S k) : Rf w' m v n cs := by
  by_cases hc : cs = []
  · obtain ⟨h0, h1, h2⟩ := h
    refine ⟨h0, h1, ?_⟩
    rcases h2 with h2 | ⟨a, cap, h3, h4, h5, _⟩
    · exact .inl h2
    · exact .inr ⟨a, cap, h3, h4, h5, fun j u hu => by rw [hc] at hu; simp at hu⟩
  · exact h.kept hk (hn hc)

/-- A list that is not empty lies in memory that is there. -/
theorem Rf.there {w : World} {m : Nat} {v : Value} {n : Nat} {cs : List Value} (h : Rf w m v n cs) (hc : cs ≠ []) : ∀ k, v.ownBlock = some k → k < w.heap.size := by
  intro k hk
  obtain ⟨-, -, h2⟩ := h
  rcases h2 with ⟨rfl, _⟩ | ⟨a, cap, rfl, -, -, h3⟩
  · cases hk
  · have h0 := h3 0 (cs[0]'(by cases cs; exact absurd rfl hc; simp)) (by simp)
    have e : (a.add 0).block = a.block := by unfold Addr.add; split <;> rfl
    have := World.block_lt_of_cell? _ _ h0
    rw [e] at this
    simp only [Value.ownBlock, Option.some.injEq] at hk
    omega

theorem flat_ne {xs : List Sx} (h : xs.flatMap Sx.cells ≠ []) : xs ≠ [] := fun e => h (by rw [e]; rfl)

end Go.Proofs.Ytkalppcekmlgbaa
