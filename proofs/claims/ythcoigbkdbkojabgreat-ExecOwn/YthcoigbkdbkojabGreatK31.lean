import Derived.Test.YthcoigbkdbkojabGreatK27
import Derived.Deep.Strs
import Derived.ShutString
import Derived.ChangeOld
set_option maxRecDepth 100000
namespace Go.Proofs.YthcoigbkdbkojabGreat
open Go.RowKit Go.WideShapes Go.ChangeAt Go.ChangeShapes
theorem Tryz.cells29 : Tryz.prog.cellsOf 29 = 3 := by kernel_rfl
theorem Tryz.cells31 : Tryz.prog.cellsOf 31 = 8 := by kernel_rfl
theorem Tryz.cells45 : Tryz.prog.cellsOf 45 = 4 := by kernel_rfl
theorem Tryz.cells34 : Tryz.prog.cellsOf 34 = 3 := by kernel_rfl
theorem Tryz.cells32 : Tryz.prog.cellsOf 32 = 1 := by kernel_rfl
theorem Tryz.cells3 : Tryz.prog.cellsOf 3 = 1 := by kernel_rfl
theorem Tryz.cells2 : Tryz.prog.cellsOf 2 = 1 := by kernel_rfl
theorem Tryz.cells9 : Tryz.prog.cellsOf 9 = 1 := by kernel_rfl
theorem add_add (a : Addr) (x y : Nat) : (a.add x).add y = a.add (x + y) := by
  unfold Addr.add
  by_cases hx : x = 0
  · subst hx; simp
  · by_cases hy : y = 0
    · subst hy; simp
    · simp [hx, hy, Nat.add_assoc]
theorem rf_of_trod {H : Type} {enc : TypeId × Value → H} {W : World} {base : Nat} {held : Bool} {fuel : Nat} {t e : TypeId} {cs : List Value} {x : DataW H × List MemPlace} {α : Type} [Inhabited α] (f : α → List Value) (p : α → Prop) (m : Nat) (hf : ∀ y, (f y).length = m) (h1 : ∀ y, ∀ u ∈ f y, u.oneCell' = true)
    (ht : Tryz.prog.underlying t = some (.slice e)) (hm : Tryz.prog.cellsOf e = m) (hel : ∀ n cs' x', DataW.trod enc Tryz.prog W base (fun _ => true) held n e cs' = some x' → ∃ y : α, p y ∧ cs' = f y)
    (h : DataW.trod enc Tryz.prog W base (fun _ => true) held fuel t cs = some x) : ∃ (v : Value) (ys : List α), cs = [v] ∧ Rf W m v ys.length (ys.flatMap f) ∧ ∀ y ∈ ys, p y := by
  rcases Go.Deep.open_slice ht h with ⟨rfl, _⟩ | ⟨a, len, cap, mm, n, D, Pl, rfl, _, hl, hcm, hmm, _, hx⟩
  · exact ⟨_, [], rfl, rf_nil W m, (fun _ h => nomatch h)⟩
  · simp only [if_true] at hmm
    subst hmm
    rw [hm] at hx
    have key : ∀ i, i < len → ∃ y : α, p y ∧ ∀ c, c < m → W.cell? ((a.add (i * m)).add c) = (f y)[c]? := by
      intro i hi
      obtain ⟨cs', q1, q2⟩ := hx i (by omega)
      obtain ⟨y, hy, rfl⟩ := hel _ _ _ q2
      exact ⟨y, hy, fun c hc => (World.cells?_some q1).2.2 c hc⟩
    obtain ⟨F, hF⟩ := Go.Deep.choose_lt key
    refine ⟨_, (List.range len).map F, rfl, ⟨flat_len f m hf _, ?_, .inr ⟨a, mm, by simp, by simpa using hl, hcm, ?_⟩⟩, ?_⟩
    · intro u hu
      obtain ⟨y, _, hy⟩ := List.mem_flatMap.1 hu
      exact h1 y u hy
    · intro j u hu
      have hmp : 0 < m := by
        rcases Nat.eq_zero_or_pos m with h0 | h0
        · have hz := flat_len f m hf ((List.range len).map F)
          rw [h0, Nat.mul_zero] at hz
          rw [List.eq_nil_of_length_eq_zero hz] at hu
          simp at hu
        · exact h0
      have hj : j = j / m * m + j % m := by rw [Nat.mul_comm]; exact (Nat.div_add_mod j m).symm
      have hc : j % m < m := Nat.mod_lt _ hmp
      rw [hj, flat_get f m hf _ _ _ hc] at hu
      rw [List.getElem?_map] at hu
      have hlt : j / m < len := by
        rcases Nat.lt_or_ge (j / m) len with h | h
        · exact h
        · rw [List.getElem?_eq_none (by simpa using h)] at hu
          simp at hu
      simp [hlt] at hu
      have := (hF (j / m) hlt).2 (j % m) hc
      rw [hu, add_add, ← hj] at this
      exact this
    · intro y hy
      simp at hy
      obtain ⟨i, hi, rfl⟩ := hy
      exact (hF i hi).1
theorem vl_of_trod {H : Type} {enc : TypeId × Value → H} {W : World} {base : Nat} {spare : Nat → Bool} {held : Bool} {fuel : Nat} {cs : List Value} {x : DataW H × List MemPlace}
    (h : DataW.trod enc Tryz.prog W base spare held fuel 29 cs = some x) : ∃ y : Vd, inR y.i = true ∧ cs = vcs y := by
  obtain ⟨xs, n, _, rfl, hl, hlen, hf⟩ := DataW.trod_struct Tryz.underlying29 h
  rw [Tryz.cells29] at hl
  match cs, hl, xs, hlen with
  | [c0, c1, c2], _, [y0, y1, y2], _ =>
    have f0 : DataW.trod enc Tryz.prog W base spare held n 3 (([c0, c1, c2].drop 0).take (Tryz.prog.cellsOf 3)) = some y0 := hf 0 _ rfl
    have f1 : DataW.trod enc Tryz.prog W base spare held n 2 (([c0, c1, c2].drop 1).take (Tryz.prog.cellsOf 2)) = some y1 := hf 1 _ rfl
    have f2 : DataW.trod enc Tryz.prog W base spare held n 9 (([c0, c1, c2].drop 2).take (Tryz.prog.cellsOf 9)) = some y2 := hf 2 _ rfl
    rw [Tryz.cells3] at f0
    rw [Tryz.cells2] at f1
    rw [Tryz.cells9] at f2
    obtain ⟨a0, e0, _, w0⟩ := DataW.trod_int Tryz.underlying3 (x := y0) (by simpa using f0)
    obtain ⟨a1, e1, _, w1⟩ := DataW.trod_int Tryz.underlying2 (x := y1) (by simpa using f1)
    obtain ⟨s, e2, _, w2⟩ := DataW.trod_string Tryz.underlying9 (x := y2) (by simpa using f2)
    simp at e0 e1 e2
    subst e0 e1 e2
    have b1 := bounds_i64 w1
    exact ⟨⟨a0, a1, s⟩, decide_eq_true ⟨b1.1, by have := b1.2; show a1 ≤ 9223372036854775807; omega⟩, rfl⟩
theorem ins_of_trod {H : Type} {enc : TypeId × Value → H} {W : World} {base : Nat} {spare : Nat → Bool} {held : Bool} {fuel : Nat} {cs : List Value} {x : DataW H × List MemPlace}
    (h : DataW.trod enc Tryz.prog W base spare held fuel 31 cs = some x) : ∃ y : Ins, inR y.i = true ∧ cs = y.cells := by
  obtain ⟨xs, n, _, rfl, hl, hlen, hf⟩ := DataW.trod_struct Tryz.underlying31 h
  rw [Tryz.cells31] at hl
  match cs, hl, xs, hlen with
  | [c0, c1, c2, c3, c4, c5, c6, c7], _, [y0, y1, y2, y3, y4, y5], _ =>
    have f0 : DataW.trod enc Tryz.prog W base spare held n 3 (([c0, c1, c2, c3, c4, c5, c6, c7].drop 0).take (Tryz.prog.cellsOf 3)) = some y0 := hf 0 _ rfl
    have f1 : DataW.trod enc Tryz.prog W base spare held n 3 (([c0, c1, c2, c3, c4, c5, c6, c7].drop 1).take (Tryz.prog.cellsOf 3)) = some y1 := hf 1 _ rfl
    have f2 : DataW.trod enc Tryz.prog W base spare held n 3 (([c0, c1, c2, c3, c4, c5, c6, c7].drop 2).take (Tryz.prog.cellsOf 3)) = some y2 := hf 2 _ rfl
    have f3 : DataW.trod enc Tryz.prog W base spare held n 3 (([c0, c1, c2, c3, c4, c5, c6, c7].drop 3).take (Tryz.prog.cellsOf 3)) = some y3 := hf 3 _ rfl
    have f4 : DataW.trod enc Tryz.prog W base spare held n 3 (([c0, c1, c2, c3, c4, c5, c6, c7].drop 4).take (Tryz.prog.cellsOf 3)) = some y4 := hf 4 _ rfl
    have f5 : DataW.trod enc Tryz.prog W base spare held n 29 (([c0, c1, c2, c3, c4, c5, c6, c7].drop 5).take (Tryz.prog.cellsOf 29)) = some y5 := hf 5 _ rfl
    rw [Tryz.cells3] at f0 f1 f2 f3 f4
    rw [Tryz.cells29] at f5
    obtain ⟨a0, e0, _, _⟩ := DataW.trod_int Tryz.underlying3 (x := y0) (by simpa using f0)
    obtain ⟨a1, e1, _, _⟩ := DataW.trod_int Tryz.underlying3 (x := y1) (by simpa using f1)
    obtain ⟨a2, e2, _, _⟩ := DataW.trod_int Tryz.underlying3 (x := y2) (by simpa using f2)
    obtain ⟨a3, e3, _, _⟩ := DataW.trod_int Tryz.underlying3 (x := y3) (by simpa using f3)
    obtain ⟨a4, e4, _, _⟩ := DataW.trod_int Tryz.underlying3 (x := y4) (by simpa using f4)
    obtain ⟨⟨k, i, s⟩, hi, e5⟩ := vl_of_trod f5
    simp [vcs] at e0 e1 e2 e3 e4 e5
    obtain ⟨e5, e6, e7⟩ := e5
    subst e0 e1 e2 e3 e4 e5 e6 e7
    exact ⟨⟨a0, a1, a2, a3, a4, k, i, s⟩, hi, rfl⟩
theorem ent_of_trod {H : Type} {enc : TypeId × Value → H} {W : World} {base : Nat} {spare : Nat → Bool} {held : Bool} {fuel : Nat} {cs : List Value} {x : DataW H × List MemPlace}
    (h : DataW.trod enc Tryz.prog W base spare held fuel 45 cs = some x) : ∃ y : ByteArray × Vd, inR y.2.i = true ∧ cs = ecs y := by
  obtain ⟨xs, n, _, rfl, hl, hlen, hf⟩ := DataW.trod_struct Tryz.underlying45 h
  rw [Tryz.cells45] at hl
  match cs, hl, xs, hlen with
  | [c0, c1, c2, c3], _, [y0, y1], _ =>
    have f0 : DataW.trod enc Tryz.prog W base spare held n 9 (([c0, c1, c2, c3].drop 0).take (Tryz.prog.cellsOf 9)) = some y0 := hf 0 _ rfl
    have f1 : DataW.trod enc Tryz.prog W base spare held n 29 (([c0, c1, c2, c3].drop 1).take (Tryz.prog.cellsOf 29)) = some y1 := hf 1 _ rfl
    rw [Tryz.cells9] at f0
    rw [Tryz.cells29] at f1
    obtain ⟨s, e0, _, _⟩ := DataW.trod_string Tryz.underlying9 (x := y0) (by simpa using f0)
    obtain ⟨⟨k, i, t⟩, hi, e1⟩ := vl_of_trod f1
    simp [vcs] at e0 e1
    obtain ⟨e1, e2, e3⟩ := e1
    subst e0 e1 e2 e3
    exact ⟨(s, ⟨k, i, t⟩), hi, rfl⟩
instance : Inhabited Ins := ⟨⟨0, 0, 0, 0, 0, 0, 0, emp⟩⟩
instance : Inhabited Vd := ⟨⟨0, 0, emp⟩⟩
theorem vcs_len (v : Vd) : (vcs v).length = 3 := rfl
theorem vcs_one1 (v : Vd) : ∀ u ∈ vcs v, u.oneCell' = true := by
  intro u hu
  simp [vcs] at hu
  rcases hu with rfl | rfl | rfl <;> rfl
theorem ecs_len (v : ByteArray × Vd) : (ecs v).length = 4 := rfl
theorem ecs_one1 (v : ByteArray × Vd) : ∀ u ∈ ecs v, u.oneCell' = true := by
  intro u hu
  simp [ecs] at hu
  rcases hu with rfl | rfl | rfl | rfl <;> rfl
theorem ins_cells (x : Ins) : x.cells.length = 8 := rfl
theorem ins_one (x : Ins) : ∀ u ∈ x.cells, u.oneCell' = true := by
  intro u hu
  simp only [Ins.cells, List.mem_cons, List.mem_nil_iff, or_false] at hu
  rcases hu with rfl | rfl | rfl | rfl | rfl | rfl | rfl | rfl <;> rfl
theorem code_of_rf {w : World} {v : Value} {xs : List Ins} (h : Rf w 8 v xs.length (xs.flatMap Ins.cells)) : CodeAt w v xs := by
  obtain ⟨ao, cap, rfl, hc, _⟩ := h.shape
  refine ⟨ao, cap, rfl, hc, fun hn => ?_⟩
  have hpos := List.length_pos_iff.2 hn
  obtain ⟨b, off, cap', e, -, -, -⟩ := Rf.elem (f := Ins.cells) ins_cells (by decide) h 0 hpos
  injection e with e1 _ _
  refine ⟨b, off, e1, fun j x hx => ?_⟩
  obtain ⟨hj, hxe⟩ := List.getElem?_eq_some_iff.1 hx
  obtain ⟨b', off', cap'', e', -, -, hc⟩ := Rf.elem (f := Ins.cells) ins_cells (by decide) h j hj
  injection e' with e2 _ _
  rw [e1] at e2
  injection e2 with e2
  injection e2 with e3 e4 _
  subst e3 e4
  rw [hxe] at hc
  exact ⟨hc 0 _ rfl, hc 1 _ rfl, hc 2 _ rfl, hc 3 _ rfl, hc 4 _ rfl, hc 5 _ rfl, hc 6 _ rfl, hc 7 _ rfl⟩
theorem va_of_rf {w : World} {v : Value} {vs : List Vd} (h : Rf w 3 v vs.length (vs.flatMap vcs)) : Va w v vs := by
  obtain ⟨ao, cap, rfl, hc, _⟩ := h.shape
  refine ⟨ao, cap, rfl, hc, fun hn => ?_⟩
  have hpos := List.length_pos_iff.2 hn
  obtain ⟨b, off, cap', e, -, -, -⟩ := Rf.elem (f := vcs) vcs_len (by decide) h 0 hpos
  injection e with e1 _ _
  refine ⟨b, off, e1, fun j x hx => ?_⟩
  obtain ⟨hj, hxe⟩ := List.getElem?_eq_some_iff.1 hx
  obtain ⟨b', off', cap'', e', -, -, hc⟩ := Rf.elem (f := vcs) vcs_len (by decide) h j hj
  injection e' with e2 _ _
  rw [e1] at e2
  injection e2 with e2
  injection e2 with e3 e4 _
  subst e3 e4
  rw [hxe] at hc
  exact ⟨hc 0 _ rfl, hc 1 _ rfl, hc 2 _ rfl⟩
theorem ents_of_trod {H : Type} {enc : TypeId × Value → H} {W : World} {base b2 : Nat} {held : Bool} {v : Value} {d : DataW H} {p : List MemPlace} (hv : Value.okWide Tryz.prog W .any b2 22 v)
    (h : DataW.Trod enc Tryz.prog W base (fun _ => true) held 22 v d p) : ∃ es : List (ByteArray × Vd), Rf W 4 v es.length (es.flatMap ecs) ∧ ∀ x ∈ es, inR x.2.i = true := by
  obtain ⟨fuel, hf⟩ := h
  obtain ⟨S, ys, e, hR, hO⟩ := rf_of_trod ecs (fun x => inR x.2.i = true) 4 ecs_len ecs_one1 Tryz.underlying22 Tryz.cells45 (fun _ _ _ h => ent_of_trod h) hf
  obtain ⟨ao, len, cap, rfl⟩ : ∃ ao len cap, v = .slice ao len cap := by
    obtain ⟨a, n, c, e2⟩ := okWide_slice Tryz.underlying22 hv
    exact ⟨a, n, c, e2⟩
  simp [Value.cells] at e
  subst e
  exact ⟨ys, hR, hO⟩
end Go.Proofs.YthcoigbkdbkojabGreat
