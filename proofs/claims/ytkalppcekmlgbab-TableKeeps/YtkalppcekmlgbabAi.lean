import Derived.Test.YtkalppcekmlgbabRf
import Derived.SizedLaws
namespace Go.Proofs.Ytkalppcekmlgbab
open Go.RowKit

theorem Try.cells3 : Try.prog.cellsOf 3 = 1 := by kernel_rfl
theorem Try.cells9 : Try.prog.cellsOf 9 = 1 := by kernel_rfl
theorem flat_one {α : Type} (f : α → Value) : ∀ ys : List α, ys.flatMap (fun y => [f y]) = ys.map f
  | [] => rfl
  | y :: ys => by rw [List.flatMap_cons, List.map_cons, flat_one f ys]; rfl

section
variable {H : Type} {enc : TypeId × Value → H} {W : World} {base : Nat} {held : Bool} {fuel : Nat} {cs : List Value} {x : DataW H × List MemPlace}

theorem int_of_trod (h : DataW.trod enc Try.prog W base (fun _ => true) held fuel 3 cs = some x) : ∃ y : Int, cs = [.int .i64 y] := by
  obtain ⟨a0, e0, _, w0⟩ := DataW.trod_int Try.underlying3 h
  exact ⟨a0, e0⟩
theorem str_of_trod (h : DataW.trod enc Try.prog W base (fun _ => true) held fuel 9 cs = some x) (hw : ∀ m ∈ x.1.weights Try.prog 9, m ≤ reachBytes) : ∃ y : ByteArray, y.size ≤ 281474976710656 ∧ cs = [.string y] := by
  obtain ⟨s, e4, e5, w4⟩ := DataW.trod_string Try.underlying9 h
  refine ⟨s, ?_, e4⟩
  rw [e5] at hw
  have h1 := hw s.data.toList.length (by simp [DataW.weights])
  have h2 := reachBytes_lt
  have h3 : s.size = s.data.toList.length := by rw [Array.length_toList]; rfl
  omega

theorem mem_weightsAll {P : Program} {e : TypeId} : ∀ {ds : List (DataW H)} {d : DataW H} {n : Nat}, d ∈ ds → n ∈ d.weights P e → n ∈ DataW.weightsAll P e ds
  | a :: ds, d, n, hd, hn => by
    rw [DataW.weightsAll, List.mem_append]
    rcases List.mem_cons.1 hd with rfl | hd
    · exact .inl hn
    · exact .inr (mem_weightsAll hd hn)

/-- A slice whose elements are read, element by element. -/
theorem rf_of_trod_w {t e : TypeId} {α : Type} [Inhabited α] (f : α → List Value) (p : α → Prop) (m : Nat) (hf : ∀ y, (f y).length = m) (h1 : ∀ y, ∀ u ∈ f y, u.oneCell' = true)
    (ht : Try.prog.underlying t = some (.slice e)) (hm : Try.prog.cellsOf e = m) (hel : ∀ n cs' x', DataW.trod enc Try.prog W base (fun _ => true) held n e cs' = some x' → (∀ m ∈ x'.1.weights Try.prog e, m ≤ reachBytes) → ∃ y : α, p y ∧ cs' = f y) (hw : ∀ m ∈ x.1.weights Try.prog t, m ≤ reachBytes)
    (h : DataW.trod enc Try.prog W base (fun _ => true) held fuel t cs = some x) : ∃ (v : Value) (ys : List α), cs = [v] ∧ Rf W m v ys.length (ys.flatMap f) ∧ ∀ y ∈ ys, p y := by
  rcases Go.Deep.open_slice ht h with ⟨rfl, _⟩ | ⟨a, len, cap, mm, n, D, Pl, rfl, _, hl, hcm, hmm, hxe, hx⟩
  · exact ⟨_, [], rfl, rf_nil W m, (fun _ h => nomatch h)⟩
  · simp only [if_true] at hmm
    subst hmm
    rw [hm] at hx
    have key : ∀ i, i < len → ∃ y : α, p y ∧ ∀ c, c < m → W.cell? ((a.add (i * m)).add c) = (f y)[c]? := by
      intro i hi
      obtain ⟨cs', q1, q2⟩ := hx i (by omega)
      obtain ⟨y, hy, rfl⟩ := hel _ _ _ q2 (fun m hm => hw m (by
        rw [hxe]
        simp only [DataW.weights, ht]
        exact List.mem_cons_of_mem _ (List.mem_append_left _ (mem_weightsAll (List.mem_map.2 ⟨i, by simpa using hi, rfl⟩) hm))))
      exact ⟨y, hy, fun c hc => (World.cells?_some q1).2.2 c hc⟩
    obtain ⟨F, hF⟩ := Go.Deep.choose_lt key
    refine ⟨_, (List.range len).map F, rfl, ⟨flat_len f m hf _, ?_, .inr ⟨a, mm, by simp, by simpa using hl, hcm, ?_⟩⟩, ?_⟩
    · intro u hu
      obtain ⟨y, _, hy⟩ := List.mem_flatMap.1 hu
      exact h1 y u hy
    · intro j u hu
      have hmp : 0 < m := by
        rcases Nat.eq_zero_or_pos m with h0 | h0
        · have hz := flat_len f m hf ((List.range len).map F)
          rw [h0, Nat.mul_zero] at hz
          rw [List.eq_nil_of_length_eq_zero hz] at hu
          simp at hu
        · exact h0
      have hj : j = j / m * m + j % m := by rw [Nat.mul_comm]; exact (Nat.div_add_mod j m).symm
      have hc : j % m < m := Nat.mod_lt _ hmp
      rw [hj, flat_get f m hf _ _ _ hc] at hu
      rw [List.getElem?_map] at hu
      have hlt : j / m < len := by
        rcases Nat.lt_or_ge (j / m) len with h | h
        · exact h
        · rw [List.getElem?_eq_none (by simpa using h)] at hu
          simp at hu
      simp [hlt] at hu
      have := (hF (j / m) hlt).2 (j % m) hc
      rw [hu, add_add, ← hj] at this
      exact this
    · intro y hy
      simp at hy
      obtain ⟨i, hi, rfl⟩ := hy
      exact (hF i hi).1

instance : Inhabited ByteArray := ⟨⟨#[]⟩⟩
theorem strs_of_trod (h : DataW.trod enc Try.prog W base (fun _ => true) held fuel 22 cs = some x) (hw : ∀ m ∈ x.1.weights Try.prog 22, m ≤ reachBytes) : ∃ (v : Value) (ys : List ByteArray), cs = [v] ∧ Rf W 1 v ys.length (ys.map Value.string) ∧ ∀ y ∈ ys, y.size ≤ 281474976710656 := by
  obtain ⟨v, ys, e, hr, hy⟩ := rf_of_trod_w (fun y : ByteArray => [Value.string y]) (fun y : ByteArray => y.size ≤ 281474976710656) 1 (fun _ => rfl) (fun y u hu => by simp at hu; rw [hu]; rfl) Try.underlying22 Try.cells9 (fun _ _ _ h hw => str_of_trod h hw) hw h
  exact ⟨v, ys, e, by rwa [flat_one] at hr, hy⟩
end

end Go.Proofs.Ytkalppcekmlgbab
