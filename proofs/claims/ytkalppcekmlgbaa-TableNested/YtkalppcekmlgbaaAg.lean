import Derived.Test.YtkalppcekmlgbaaFe
import Derived.SizedLaws
namespace Go.Proofs.Ytkalppcekmlgbaa
open Go.RowKit

theorem Try.cells3 : Try.prog.cellsOf 3 = 1 := by kernel_rfl
theorem Try.cells9 : Try.prog.cellsOf 9 = 1 := by kernel_rfl
theorem Try.cells51 : Try.prog.cellsOf 51 = 5 := by kernel_rfl

instance : Inhabited Sx := ⟨⟨0, ⟨#[]⟩, ⟨#[]⟩, 0, 0⟩⟩

section
variable {H : Type} {enc : TypeId × Value → H} {W : World} {base : Nat} {held : Bool} {fuel : Nat} {cs : List Value} {x : DataW H × List MemPlace}

theorem int_of_trod (h : DataW.trod enc Try.prog W base (fun _ => true) held fuel 3 cs = some x) : ∃ y : Int, cs = [.int .i64 y] := by
  obtain ⟨a0, e0, _, w0⟩ := DataW.trod_int Try.underlying3 h
  exact ⟨a0, e0⟩
theorem str_of_trod (h : DataW.trod enc Try.prog W base (fun _ => true) held fuel 9 cs = some x) (hw : ∀ m ∈ x.1.weights Try.prog 9, m ≤ reachBytes) : ∃ y : ByteArray, y.size ≤ 281474976710656 ∧ cs = [.string y] := by
  obtain ⟨s, e4, e5, w4⟩ := DataW.trod_string Try.underlying9 h
  refine ⟨s, ?_, e4⟩
  rw [e5] at hw
  have h1 := hw s.data.toList.length (by simp [DataW.weights])
  have h2 := reachBytes_lt
  have h3 : s.size = s.data.toList.length := by rw [Array.length_toList]; rfl
  omega

theorem mem_weightsAll {P : Program} {e : TypeId} : ∀ {ds : List (DataW H)} {d : DataW H} {n : Nat}, d ∈ ds → n ∈ d.weights P e → n ∈ DataW.weightsAll P e ds
  | a :: ds, d, n, hd, hn => by
    rw [DataW.weightsAll, List.mem_append]
    rcases List.mem_cons.1 hd with rfl | hd
    · exact .inl hn
    · exact .inr (mem_weightsAll hd hn)

set_option maxRecDepth 100000 in
theorem step_of_trod (h : DataW.trod enc Try.prog W base (fun _ => true) held fuel 51 cs = some x) (hw : ∀ m ∈ x.1.weights Try.prog 51, m ≤ reachBytes) : ∃ y : Sx, (y.key.size ≤ 281474976710656 ∧ y.to.size ≤ 281474976710656) ∧ cs = y.cells := by
  obtain ⟨xs, n, _, rfl, hl, hlen, hf⟩ := DataW.trod_struct Try.underlying51 h
  rw [Try.cells51] at hl
  match cs, hl, xs, hlen with
  | [c0, c1, c2, c3, c4], _, [y0, y1, y2, y3, y4], _ =>
    have f0 : DataW.trod enc Try.prog W base (fun _ => true) held n 3 (([c0, c1, c2, c3, c4].drop 0).take (Try.prog.cellsOf 3)) = some y0 := hf 0 _ rfl
    have f1 : DataW.trod enc Try.prog W base (fun _ => true) held n 9 (([c0, c1, c2, c3, c4].drop 1).take (Try.prog.cellsOf 9)) = some y1 := hf 1 _ rfl
    have f2 : DataW.trod enc Try.prog W base (fun _ => true) held n 9 (([c0, c1, c2, c3, c4].drop 2).take (Try.prog.cellsOf 9)) = some y2 := hf 2 _ rfl
    have f3 : DataW.trod enc Try.prog W base (fun _ => true) held n 3 (([c0, c1, c2, c3, c4].drop 3).take (Try.prog.cellsOf 3)) = some y3 := hf 3 _ rfl
    have f4 : DataW.trod enc Try.prog W base (fun _ => true) held n 3 (([c0, c1, c2, c3, c4].drop 4).take (Try.prog.cellsOf 3)) = some y4 := hf 4 _ rfl
    rw [Try.cells3] at f0 f3 f4
    rw [Try.cells9] at f1 f2
    have hw' : ∀ m ∈ DataW.weightsEach Try.prog [3, 9, 9, 3, 3] [y0.1, y1.1, y2.1, y3.1, y4.1], m ≤ reachBytes := by
      intro m hm
      refine hw m ?_
      simp only [DataW.weights, Try.underlying51]
      exact hm
    obtain ⟨a0, e0⟩ := int_of_trod f0
    obtain ⟨a1, b1, e1⟩ := str_of_trod f1 (fun m hm => hw' m (DataW.weights_mem_each (j := 1) (t := 9) (d := y1.1) rfl rfl m hm))
    obtain ⟨a2, b2, e2⟩ := str_of_trod f2 (fun m hm => hw' m (DataW.weights_mem_each (j := 2) (t := 9) (d := y2.1) rfl rfl m hm))
    obtain ⟨a3, e3⟩ := int_of_trod f3
    obtain ⟨a4, e4⟩ := int_of_trod f4
    simp at e0 e1 e2 e3 e4
    subst e0 e1 e2 e3 e4
    exact ⟨⟨a0, a1, a2, a3, a4⟩, ⟨b1, b2⟩, rfl⟩

/-- A slice whose elements are read, element by element. -/
theorem rf_of_trod_w {t e : TypeId} {α : Type} [Inhabited α] (f : α → List Value) (p : α → Prop) (m : Nat) (hf : ∀ y, (f y).length = m) (h1 : ∀ y, ∀ u ∈ f y, u.oneCell' = true)
    (ht : Try.prog.underlying t = some (.slice e)) (hm : Try.prog.cellsOf e = m) (hel : ∀ n cs' x', DataW.trod enc Try.prog W base (fun _ => true) held n e cs' = some x' → (∀ m ∈ x'.1.weights Try.prog e, m ≤ reachBytes) → ∃ y : α, p y ∧ cs' = f y) (hw : ∀ m ∈ x.1.weights Try.prog t, m ≤ reachBytes)
    (h : DataW.trod enc Try.prog W base (fun _ => true) held fuel t cs = some x) : ∃ (v : Value) (ys : List α), cs = [v] ∧ Rf W m v ys.length (ys.flatMap f) ∧ ∀ y ∈ ys, p y := by
  rcases Go.Deep.open_slice ht h with ⟨rfl, _⟩ | ⟨a, len, cap, mm, n, D, Pl, rfl, _, hl, hcm, hmm, hxe, hx⟩
  · exact ⟨_, [], rfl, rf_nil W m, (fun _ h => nomatch h)⟩
  · simp only [if_true] at hmm
    subst hmm
    rw [hm] at hx
    have key : ∀ i, i < len → ∃ y : α, p y ∧ ∀ c, c < m → W.cell? ((a.add (i * m)).add c) = (f y)[c]? := by
      intro i hi
      obtain ⟨cs', q1, q2⟩ := hx i (by omega)
      obtain ⟨y, hy, rfl⟩ := hel _ _ _ q2 (fun m hm => hw m (by
        rw [hxe]
        simp only [DataW.weights, ht]
        exact List.mem_cons_of_mem _ (List.mem_append_left _ (mem_weightsAll (List.mem_map.2 ⟨i, by simpa using hi, rfl⟩) hm))))
      exact ⟨y, hy, fun c hc => (World.cells?_some q1).2.2 c hc⟩
    obtain ⟨F, hF⟩ := Go.Deep.choose_lt key
    refine ⟨_, (List.range len).map F, rfl, ⟨flat_len f m hf _, ?_, .inr ⟨a, mm, by simp, by simpa using hl, hcm, ?_⟩⟩, ?_⟩
    · intro u hu
      obtain ⟨y, _, hy⟩ := List.mem_flatMap.1 hu
      exact h1 y u hy
    · intro j u hu
      have hmp : 0 < m := by
        rcases Nat.eq_zero_or_pos m with h0 | h0
        · have hz := flat_len f m hf ((List.range len).map F)
          rw [h0, Nat.mul_zero] at hz
          rw [List.eq_nil_of_length_eq_zero hz] at hu
          simp at hu
        · exact h0
      have hj : j = j / m * m + j % m := by rw [Nat.mul_comm]; exact (Nat.div_add_mod j m).symm
      have hc : j % m < m := Nat.mod_lt _ hmp
      rw [hj, flat_get f m hf _ _ _ hc] at hu
      rw [List.getElem?_map] at hu
      have hlt : j / m < len := by
        rcases Nat.lt_or_ge (j / m) len with h | h
        · exact h
        · rw [List.getElem?_eq_none (by simpa using h)] at hu
          simp at hu
      simp [hlt] at hu
      have := (hF (j / m) hlt).2 (j % m) hc
      rw [hu, add_add, ← hj] at this
      exact this
    · intro y hy
      simp at hy
      obtain ⟨i, hi, rfl⟩ := hy
      exact (hF i hi).1

theorem steps_of_trod (h : DataW.trod enc Try.prog W base (fun _ => true) held fuel 22 cs = some x) (hw : ∀ m ∈ x.1.weights Try.prog 22, m ≤ reachBytes) : ∃ (v : Value) (ys : List Sx), cs = [v] ∧ Rf W 5 v ys.length (ys.flatMap Sx.cells) ∧ ∀ y ∈ ys, y.key.size ≤ 281474976710656 ∧ y.to.size ≤ 281474976710656 :=
  rf_of_trod_w Sx.cells (fun y : Sx => y.key.size ≤ 281474976710656 ∧ y.to.size ≤ 281474976710656) 5 Sx.len (fun y u hu => by simp [Sx.cells] at hu; rcases hu with rfl | rfl | rfl | rfl | rfl <;> rfl) Try.underlying22 Try.cells51 (fun _ _ _ h hw => step_of_trod h hw) hw h
end

end Go.Proofs.Ytkalppcekmlgbaa
