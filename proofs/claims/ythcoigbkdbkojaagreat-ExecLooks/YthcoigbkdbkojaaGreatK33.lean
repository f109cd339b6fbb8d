import Derived.Test.YthcoigbkdbkojaaGreatK32
import Derived.Test.YthcoigbkdbkojaaGreatK28
import Derived.Deep.Strs
import Derived.ProofKit
import Derived.OpenShut
import Derived.ShutString
import Derived.ChangeOld
import Derived.Test.YthcoigbkdbkojaaGreatProg
import Derived.Shelf.SlGeneric
import Derived.Shelf.Strconv.Itoa1
import Derived.Ground.NamesProg
import Derived.Test.YthcoigbkdbkojaaGreatK23
import Derived.Lib.ItoaNum
import Derived.Test.YthcoigbkdbkojaaGreatK01
import Derived.Laws.AppendOwnNone
import Derived.WalkKit
import Derived.Test.YthcoigbkdbkojaaGreatK02
import Derived.Deep.Cut
namespace Go.Proofs.YthcoigbkdbkojaaGreat
open Go.RowKit Go.MapKept

set_option maxRecDepth 100000 in
set_option maxHeartbeats 3200000 in
theorem looks_long1 (v : Value) (nm : ByteArray) (ar : Int) (ac : Option Addr) (cc : Nat) (xs : List Ins) (av ov : Value) (w : World) (hl : 1000 < xs.length) :
    Calls Tryz.prog 6 #[v, .agg #[.string nm, .int .i64 ar, .slice ac xs.length cc], av, ov] w fun e w' => e = .returned (.bool true) ∧ Below w.heap.size w w' := by
  have l1 : decide ((1000 : Int) < (xs.length : Int)) = true := by rw [decide_eq_true_eq]; omega
  have l2 : decide (1000 < xs.length) = true := by rw [decide_eq_true_eq]; omega
  clear hl
  go_enter Tryz.func6, Tryz.ntmps6
  go_wp2_with fail
  go_ret
  exact ⟨rfl, below1 w _⟩

set_option maxRecDepth 100000 in
set_option maxHeartbeats 3200000 in
theorem looks_long2 (v : Value) (nm : ByteArray) (ar : Int) (ac : Option Addr) (cc : Nat) (xs : List Ins) (av ov : Value) (al : List Vd) (w : World) (ha : Va w av al) (hl : xs.length ≤ 1000) (hla : 1000 < al.length) :
    Calls Tryz.prog 6 #[v, .agg #[.string nm, .int .i64 ar, .slice ac xs.length cc], av, ov] w fun e w' => e = .returned (.bool true) ∧ Below w.heap.size w w' := by
  obtain ⟨aa, ca, eav⟩ : ∃ aa ca, av = .slice aa al.length ca := by obtain ⟨aa, ca, e, -⟩ := ha; exact ⟨aa, ca, e⟩
  subst eav
  have l1 : decide ((1000 : Int) < (xs.length : Int)) = false := by rw [decide_eq_false_iff_not]; omega
  have l1n : xs.length ≤ 1000 := hl
  have l2 : decide ((1000 : Int) < (al.length : Int)) = true := by rw [decide_eq_true_eq]; omega
  have l2n : decide (1000 < al.length) = true := by rw [decide_eq_true_eq]; omega
  clear ha hl hla
  go_enter Tryz.func6, Tryz.ntmps6
  go_wp2_with fail
  go_ret
  exact ⟨rfl, below1 w _⟩

theorem looks_any (v : Value) (es : List (ByteArray × Vd)) (nm : ByteArray) (ar : Int) (ac : Option Addr) (cc : Nat) (xs : List Ins) (av : Value) (al : List Vd) (ov : Value) (os : List (ByteArray × Vd)) (w : World) (dig : Int → List Int) (h : Rf w 4 v es.length (es.flatMap ecs)) (hc : CodeAt w (.slice ac xs.length cc) xs) (ha : Va w av al) (ho : Rf w 4 ov os.length (os.flatMap ecs))
    (hie : ∀ x ∈ es, inR x.2.i = true) (hio : ∀ x ∈ os, inR x.2.i = true) (hi : ∀ x ∈ xs, inR x.i = true) (hv : ∀ x ∈ al, inR x.i = true) (hd : Digs dig w) :
    Calls Tryz.prog 6 #[v, .agg #[.string nm, .int .i64 ar, .slice ac xs.length cc], av, ov] w fun e w' => e = .returned (.bool true) ∧ Below w.heap.size w w' := by
  by_cases hl : xs.length ≤ 1000
  · by_cases hla : al.length ≤ 1000
    · have hT : SOk (mdG (es.take 400)) := mdG_ok _
      have hTi : ∀ x ∈ mdG (es.take 400), inR x.2.i = true := fun x hx => hie x (List.mem_of_mem_take (mdG_mem hx))
      have hE := ef_ends (dig := dig) (L := mdG (es.take 400)) (nm := nm) (ar := ar) (xs := xs) (al := al) (hT.lok hTi) hi hv
      obtain ⟨f, hf⟩ : ∃ f, efR dig (mdG (es.take 400)) nm ar xs al = f := ⟨_, rfl⟩
      rw [hf] at hE
      obtain ⟨st, at_, td, wl, lk⟩ := f
      exact looks_law v es nm ar ac cc xs av al ov os w dig _ st at_ td wl lk h hc ha ho hl hla hie hio hi hv hd rfl hf hE
    · exact looks_long2 v nm ar ac cc xs av ov al w ha hl (by omega)
  · exact looks_long1 v nm ar ac cc xs av ov w (by omega)

end Go.Proofs.YthcoigbkdbkojaaGreat

namespace Go.Proofs.YthcoigbkdbkojaaGreat
open Go.RowKit Go.WideShapes Go.ChangeAt Go.ChangeShapes

theorem Tryz.cells28 : Tryz.prog.cellsOf 28 = 3 := by kernel_rfl
theorem Tryz.cells30 : Tryz.prog.cellsOf 30 = 8 := by kernel_rfl
theorem Tryz.cells54 : Tryz.prog.cellsOf 54 = 4 := by kernel_rfl
theorem Tryz.cells25 : Tryz.prog.cellsOf 25 = 3 := by kernel_rfl
theorem Tryz.cells23 : Tryz.prog.cellsOf 23 = 1 := by kernel_rfl
theorem Tryz.cells3 : Tryz.prog.cellsOf 3 = 1 := by kernel_rfl
theorem Tryz.cells2 : Tryz.prog.cellsOf 2 = 1 := by kernel_rfl
theorem Tryz.cells9 : Tryz.prog.cellsOf 9 = 1 := by kernel_rfl

theorem add_add (a : Addr) (x y : Nat) : (a.add x).add y = a.add (x + y) := by
  unfold Addr.add
  by_cases hx : x = 0
  · subst hx; simp
  · by_cases hy : y = 0
    · subst hy; simp
    · simp [hx, hy, Nat.add_assoc]

/-- A slice whose elements are read, element by element. -/
theorem rf_of_trod {H : Type} {enc : TypeId × Value → H} {W : World} {base : Nat} {held : Bool} {fuel : Nat} {t e : TypeId} {cs : List Value} {x : DataW H × List MemPlace} {α : Type} [Inhabited α] (f : α → List Value) (p : α → Prop) (m : Nat) (hf : ∀ y, (f y).length = m) (h1 : ∀ y, ∀ u ∈ f y, u.oneCell' = true)
    (ht : Tryz.prog.underlying t = some (.slice e)) (hm : Tryz.prog.cellsOf e = m) (hel : ∀ n cs' x', DataW.trod enc Tryz.prog W base (fun _ => true) held n e cs' = some x' → ∃ y : α, p y ∧ cs' = f y)
    (h : DataW.trod enc Tryz.prog W base (fun _ => true) held fuel t cs = some x) : ∃ (v : Value) (ys : List α), cs = [v] ∧ Rf W m v ys.length (ys.flatMap f) ∧ ∀ y ∈ ys, p y := by
  rcases Go.Deep.open_slice ht h with ⟨rfl, _⟩ | ⟨a, len, cap, mm, n, D, Pl, rfl, _, hl, hcm, hmm, _, hx⟩
  · exact ⟨_, [], rfl, rf_nil W m, (fun _ h => nomatch h)⟩
  · simp only [if_true] at hmm
    subst hmm
    rw [hm] at hx
    have key : ∀ i, i < len → ∃ y : α, p y ∧ ∀ c, c < m → W.cell? ((a.add (i * m)).add c) = (f y)[c]? := by
      intro i hi
      obtain ⟨cs', q1, q2⟩ := hx i (by omega)
      obtain ⟨y, hy, rfl⟩ := hel _ _ _ q2
      exact ⟨y, hy, fun c hc => (World.cells?_some q1).2.2 c hc⟩
    obtain ⟨F, hF⟩ := Go.Deep.choose_lt key
    refine ⟨_, (List.range len).map F, rfl, ⟨flat_len f m hf _, ?_, .inr ⟨a, mm, by simp, by simpa using hl, hcm, ?_⟩⟩, ?_⟩
    · intro u hu
      obtain ⟨y, _, hy⟩ := List.mem_flatMap.1 hu
      exact h1 y u hy
    · intro j u hu
      have hmp : 0 < m := by
        rcases Nat.eq_zero_or_pos m with h0 | h0
        · have hz := flat_len f m hf ((List.range len).map F)
          rw [h0, Nat.mul_zero] at hz
          rw [List.eq_nil_of_length_eq_zero hz] at hu
          simp at hu
        · exact h0
      have hj : j = j / m * m + j % m := by rw [Nat.mul_comm]; exact (Nat.div_add_mod j m).symm
      have hc : j % m < m := Nat.mod_lt _ hmp
      rw [hj, flat_get f m hf _ _ _ hc] at hu
      rw [List.getElem?_map] at hu
      have hlt : j / m < len := by
        rcases Nat.lt_or_ge (j / m) len with h | h
        · exact h
        · rw [List.getElem?_eq_none (by simpa using h)] at hu
          simp at hu
      simp [hlt] at hu
      have := (hF (j / m) hlt).2 (j % m) hc
      rw [hu, add_add, ← hj] at this
      exact this
    · intro y hy
      simp at hy
      obtain ⟨i, hi, rfl⟩ := hy
      exact (hF i hi).1

set_option maxRecDepth 100000 in
theorem vl_of_trod {H : Type} {enc : TypeId × Value → H} {W : World} {base : Nat} {spare : Nat → Bool} {held : Bool} {fuel : Nat} {cs : List Value} {x : DataW H × List MemPlace}
    (h : DataW.trod enc Tryz.prog W base spare held fuel 28 cs = some x) : ∃ y : Vd, inR y.i = true ∧ cs = vcs y := by
  obtain ⟨xs, n, _, rfl, hl, hlen, hf⟩ := DataW.trod_struct Tryz.underlying28 h
  rw [Tryz.cells28] at hl
  match cs, hl, xs, hlen with
  | [c0, c1, c2], _, [y0, y1, y2], _ =>
    have f0 : DataW.trod enc Tryz.prog W base spare held n 3 (([c0, c1, c2].drop 0).take (Tryz.prog.cellsOf 3)) = some y0 := hf 0 _ rfl
    have f1 : DataW.trod enc Tryz.prog W base spare held n 2 (([c0, c1, c2].drop 1).take (Tryz.prog.cellsOf 2)) = some y1 := hf 1 _ rfl
    have f2 : DataW.trod enc Tryz.prog W base spare held n 9 (([c0, c1, c2].drop 2).take (Tryz.prog.cellsOf 9)) = some y2 := hf 2 _ rfl
    rw [Tryz.cells3] at f0
    rw [Tryz.cells2] at f1
    rw [Tryz.cells9] at f2
    obtain ⟨a0, e0, _, w0⟩ := DataW.trod_int Tryz.underlying3 (x := y0) (by simpa using f0)
    obtain ⟨a1, e1, _, w1⟩ := DataW.trod_int Tryz.underlying2 (x := y1) (by simpa using f1)
    obtain ⟨s, e2, _, w2⟩ := DataW.trod_string Tryz.underlying9 (x := y2) (by simpa using f2)
    simp at e0 e1 e2
    subst e0 e1 e2
    have b1 := bounds_i64 w1
    exact ⟨⟨a0, a1, s⟩, decide_eq_true ⟨b1.1, by have := b1.2; show a1 ≤ 9223372036854775807; omega⟩, rfl⟩

set_option maxRecDepth 100000 in
theorem ins_of_trod {H : Type} {enc : TypeId × Value → H} {W : World} {base : Nat} {spare : Nat → Bool} {held : Bool} {fuel : Nat} {cs : List Value} {x : DataW H × List MemPlace}
    (h : DataW.trod enc Tryz.prog W base spare held fuel 30 cs = some x) : ∃ y : Ins, inR y.i = true ∧ cs = y.cells := by
  obtain ⟨xs, n, _, rfl, hl, hlen, hf⟩ := DataW.trod_struct Tryz.underlying30 h
  rw [Tryz.cells30] at hl
  match cs, hl, xs, hlen with
  | [c0, c1, c2, c3, c4, c5, c6, c7], _, [y0, y1, y2, y3, y4, y5], _ =>
    have f0 : DataW.trod enc Tryz.prog W base spare held n 3 (([c0, c1, c2, c3, c4, c5, c6, c7].drop 0).take (Tryz.prog.cellsOf 3)) = some y0 := hf 0 _ rfl
    have f1 : DataW.trod enc Tryz.prog W base spare held n 3 (([c0, c1, c2, c3, c4, c5, c6, c7].drop 1).take (Tryz.prog.cellsOf 3)) = some y1 := hf 1 _ rfl
    have f2 : DataW.trod enc Tryz.prog W base spare held n 3 (([c0, c1, c2, c3, c4, c5, c6, c7].drop 2).take (Tryz.prog.cellsOf 3)) = some y2 := hf 2 _ rfl
    have f3 : DataW.trod enc Tryz.prog W base spare held n 3 (([c0, c1, c2, c3, c4, c5, c6, c7].drop 3).take (Tryz.prog.cellsOf 3)) = some y3 := hf 3 _ rfl
    have f4 : DataW.trod enc Tryz.prog W base spare held n 3 (([c0, c1, c2, c3, c4, c5, c6, c7].drop 4).take (Tryz.prog.cellsOf 3)) = some y4 := hf 4 _ rfl
    have f5 : DataW.trod enc Tryz.prog W base spare held n 28 (([c0, c1, c2, c3, c4, c5, c6, c7].drop 5).take (Tryz.prog.cellsOf 28)) = some y5 := hf 5 _ rfl
    rw [Tryz.cells3] at f0 f1 f2 f3 f4
    rw [Tryz.cells28] at f5
    obtain ⟨a0, e0, _, _⟩ := DataW.trod_int Tryz.underlying3 (x := y0) (by simpa using f0)
    obtain ⟨a1, e1, _, _⟩ := DataW.trod_int Tryz.underlying3 (x := y1) (by simpa using f1)
    obtain ⟨a2, e2, _, _⟩ := DataW.trod_int Tryz.underlying3 (x := y2) (by simpa using f2)
    obtain ⟨a3, e3, _, _⟩ := DataW.trod_int Tryz.underlying3 (x := y3) (by simpa using f3)
    obtain ⟨a4, e4, _, _⟩ := DataW.trod_int Tryz.underlying3 (x := y4) (by simpa using f4)
    obtain ⟨⟨k, i, s⟩, hi, e5⟩ := vl_of_trod f5
    simp [vcs] at e0 e1 e2 e3 e4 e5
    obtain ⟨e5, e6, e7⟩ := e5
    subst e0 e1 e2 e3 e4 e5 e6 e7
    exact ⟨⟨a0, a1, a2, a3, a4, k, i, s⟩, hi, rfl⟩

set_option maxRecDepth 100000 in
theorem ent_of_trod {H : Type} {enc : TypeId × Value → H} {W : World} {base : Nat} {spare : Nat → Bool} {held : Bool} {fuel : Nat} {cs : List Value} {x : DataW H × List MemPlace}
    (h : DataW.trod enc Tryz.prog W base spare held fuel 54 cs = some x) : ∃ y : ByteArray × Vd, inR y.2.i = true ∧ cs = ecs y := by
  obtain ⟨xs, n, _, rfl, hl, hlen, hf⟩ := DataW.trod_struct Tryz.underlying54 h
  rw [Tryz.cells54] at hl
  match cs, hl, xs, hlen with
  | [c0, c1, c2, c3], _, [y0, y1], _ =>
    have f0 : DataW.trod enc Tryz.prog W base spare held n 9 (([c0, c1, c2, c3].drop 0).take (Tryz.prog.cellsOf 9)) = some y0 := hf 0 _ rfl
    have f1 : DataW.trod enc Tryz.prog W base spare held n 28 (([c0, c1, c2, c3].drop 1).take (Tryz.prog.cellsOf 28)) = some y1 := hf 1 _ rfl
    rw [Tryz.cells9] at f0
    rw [Tryz.cells28] at f1
    obtain ⟨s, e0, _, _⟩ := DataW.trod_string Tryz.underlying9 (x := y0) (by simpa using f0)
    obtain ⟨⟨k, i, t⟩, hi, e1⟩ := vl_of_trod f1
    simp [vcs] at e0 e1
    obtain ⟨e1, e2, e3⟩ := e1
    subst e0 e1 e2 e3
    exact ⟨(s, ⟨k, i, t⟩), hi, rfl⟩

instance : Inhabited Ins := ⟨⟨0, 0, 0, 0, 0, 0, 0, emp⟩⟩
instance : Inhabited Vd := ⟨⟨0, 0, emp⟩⟩

theorem vcs_len (v : Vd) : (vcs v).length = 3 := rfl
theorem vcs_one1 (v : Vd) : ∀ u ∈ vcs v, u.oneCell' = true := by
  intro u hu
  simp [vcs] at hu
  rcases hu with rfl | rfl | rfl <;> rfl
theorem ecs_len (v : ByteArray × Vd) : (ecs v).length = 4 := rfl
theorem ecs_one1 (v : ByteArray × Vd) : ∀ u ∈ ecs v, u.oneCell' = true := by
  intro u hu
  simp [ecs] at hu
  rcases hu with rfl | rfl | rfl | rfl <;> rfl
theorem ins_cells (x : Ins) : x.cells.length = 8 := rfl
theorem ins_one (x : Ins) : ∀ u ∈ x.cells, u.oneCell' = true := by
  intro u hu
  simp only [Ins.cells, List.mem_cons, List.mem_nil_iff, or_false] at hu
  rcases hu with rfl | rfl | rfl | rfl | rfl | rfl | rfl | rfl <;> rfl

theorem code_of_rf {w : World} {v : Value} {xs : List Ins} (h : Rf w 8 v xs.length (xs.flatMap Ins.cells)) : CodeAt w v xs := by
  obtain ⟨ao, cap, rfl, hc, _⟩ := h.shape
  refine ⟨ao, cap, rfl, hc, fun hn => ?_⟩
  have hpos := List.length_pos_iff.2 hn
  obtain ⟨b, off, cap', e, -, -, -⟩ := Rf.elem (f := Ins.cells) ins_cells (by decide) h 0 hpos
  injection e with e1 _ _
  refine ⟨b, off, e1, fun j x hx => ?_⟩
  obtain ⟨hj, hxe⟩ := List.getElem?_eq_some_iff.1 hx
  obtain ⟨b', off', cap'', e', -, -, hc⟩ := Rf.elem (f := Ins.cells) ins_cells (by decide) h j hj
  injection e' with e2 _ _
  rw [e1] at e2
  injection e2 with e2
  injection e2 with e3 e4 _
  subst e3 e4
  rw [hxe] at hc
  exact ⟨hc 0 _ rfl, hc 1 _ rfl, hc 2 _ rfl, hc 3 _ rfl, hc 4 _ rfl, hc 5 _ rfl, hc 6 _ rfl, hc 7 _ rfl⟩

theorem va_of_rf {w : World} {v : Value} {vs : List Vd} (h : Rf w 3 v vs.length (vs.flatMap vcs)) : Va w v vs := by
  obtain ⟨ao, cap, rfl, hc, _⟩ := h.shape
  refine ⟨ao, cap, rfl, hc, fun hn => ?_⟩
  have hpos := List.length_pos_iff.2 hn
  obtain ⟨b, off, cap', e, -, -, -⟩ := Rf.elem (f := vcs) vcs_len (by decide) h 0 hpos
  injection e with e1 _ _
  refine ⟨b, off, e1, fun j x hx => ?_⟩
  obtain ⟨hj, hxe⟩ := List.getElem?_eq_some_iff.1 hx
  obtain ⟨b', off', cap'', e', -, -, hc⟩ := Rf.elem (f := vcs) vcs_len (by decide) h j hj
  injection e' with e2 _ _
  rw [e1] at e2
  injection e2 with e2
  injection e2 with e3 e4 _
  subst e3 e4
  rw [hxe] at hc
  exact ⟨hc 0 _ rfl, hc 1 _ rfl, hc 2 _ rfl⟩

set_option maxRecDepth 100000 in
/-- A procedure as an argument. -/
theorem proc_of_trod {H : Type} {enc : TypeId × Value → H} {W : World} {base b2 : Nat} {held : Bool} {v : Value} {d : DataW H} {p : List MemPlace} (hv : Value.okWide Tryz.prog W .any b2 25 v)
    (h : DataW.Trod enc Tryz.prog W base (fun _ => true) held 25 v d p) : ∃ (nm : ByteArray) (ar : Int) (ac : Option Addr) (cc : Nat) (xs : List Ins), v = .agg #[.string nm, .int .i64 ar, .slice ac xs.length cc] ∧ CodeAt W (.slice ac xs.length cc) xs ∧ (∀ x ∈ xs, inR x.i = true) := by
  obtain ⟨⟨cs⟩, rfl, _⟩ := okWide_struct Tryz.underlying25 hv
  obtain ⟨fuel, hf0⟩ := h
  have hf0 : DataW.trod enc Tryz.prog W base (fun _ => true) held fuel 25 cs = some (d, p) := by simpa [Value.cells] using hf0
  obtain ⟨xs, n, _, hd, hl, hlen, hf⟩ := DataW.trod_struct Tryz.underlying25 hf0
  rw [Tryz.cells25] at hl
  match cs, hl, xs, hlen with
  | [c0, c1, c2], _, [y0, y1, y2], _ =>
    have f0 : DataW.trod enc Tryz.prog W base (fun _ => true) held n 9 (([c0, c1, c2].drop 0).take (Tryz.prog.cellsOf 9)) = some y0 := hf 0 _ rfl
    have f1 : DataW.trod enc Tryz.prog W base (fun _ => true) held n 3 (([c0, c1, c2].drop 1).take (Tryz.prog.cellsOf 3)) = some y1 := hf 1 _ rfl
    have f2 : DataW.trod enc Tryz.prog W base (fun _ => true) held n 23 (([c0, c1, c2].drop 2).take (Tryz.prog.cellsOf 23)) = some y2 := hf 2 _ rfl
    rw [Tryz.cells9] at f0
    rw [Tryz.cells3] at f1
    rw [Tryz.cells23] at f2
    obtain ⟨s, e0, _, _⟩ := DataW.trod_string Tryz.underlying9 (x := y0) (by simpa using f0)
    obtain ⟨a1, e1, _, _⟩ := DataW.trod_int Tryz.underlying3 (x := y1) (by simpa using f1)
    obtain ⟨S, ys, e2, hR, hO⟩ := rf_of_trod Ins.cells (fun x => inR x.i = true) 8 ins_cells ins_one Tryz.underlying23 Tryz.cells30 (fun _ _ _ h => ins_of_trod h) f2
    simp at e0 e1 e2
    subst e0 e1 e2
    obtain ⟨ac, cc, rfl, -, -⟩ := hR.shape
    exact ⟨s, a1, ac, cc, ys, rfl, code_of_rf hR, hO⟩

set_option maxRecDepth 100000 in
/-- Entries, and values, as an argument. -/
theorem ents_of_trod {H : Type} {enc : TypeId × Value → H} {W : World} {base b2 : Nat} {held : Bool} {v : Value} {d : DataW H} {p : List MemPlace} (hv : Value.okWide Tryz.prog W .any b2 22 v)
    (h : DataW.Trod enc Tryz.prog W base (fun _ => true) held 22 v d p) : ∃ es : List (ByteArray × Vd), Rf W 4 v es.length (es.flatMap ecs) ∧ ∀ x ∈ es, inR x.2.i = true := by
  obtain ⟨fuel, hf⟩ := h
  obtain ⟨S, ys, e, hR, hO⟩ := rf_of_trod ecs (fun x => inR x.2.i = true) 4 ecs_len ecs_one1 Tryz.underlying22 Tryz.cells54 (fun _ _ _ h => ent_of_trod h) hf
  obtain ⟨ao, len, cap, rfl⟩ : ∃ ao len cap, v = .slice ao len cap := by
    obtain ⟨a, n, c, e2⟩ := okWide_slice Tryz.underlying22 hv
    exact ⟨a, n, c, e2⟩
  simp [Value.cells] at e
  subst e
  exact ⟨ys, hR, hO⟩

set_option maxRecDepth 100000 in
theorem vals_of_trod {H : Type} {enc : TypeId × Value → H} {W : World} {base b2 : Nat} {held : Bool} {v : Value} {d : DataW H} {p : List MemPlace} (hv : Value.okWide Tryz.prog W .any b2 26 v)
    (h : DataW.Trod enc Tryz.prog W base (fun _ => true) held 26 v d p) : ∃ vs : List Vd, Va W v vs ∧ ∀ x ∈ vs, inR x.i = true := by
  obtain ⟨fuel, hf⟩ := h
  obtain ⟨S, ys, e, hR, hO⟩ := rf_of_trod vcs (fun x => inR x.i = true) 3 vcs_len vcs_one1 Tryz.underlying26 Tryz.cells28 (fun _ _ _ h => vl_of_trod h) hf
  obtain ⟨ao, len, cap, rfl⟩ : ∃ ao len cap, v = .slice ao len cap := by
    obtain ⟨a, n, c, e2⟩ := okWide_slice Tryz.underlying26 hv
    exact ⟨a, n, c, e2⟩
  simp [Value.cells] at e
  subst e
  exact ⟨ys, va_of_rf hR, hO⟩

end Go.Proofs.YthcoigbkdbkojaaGreat

/-
  DERIVED: THE SHELF's CONTRACTS AT THIS DUMP, IN PLAIN WORDS (tools/lay-plain.mjs out of 'YthcoigbkdbkojaaGreatLbRaw.lean', which tools/lay-shelf.mjs wrote): THE SAME DECLARATIONS UNDER THE SAME NAMES: 'import', 'namespace', 'open', 'def', 'theorem' AND NOTHING ELSE: no command of the shelf's: FOR A HAND-IN. Each laying: the table of numbers ('.._ren') and one theorem, a field a fact of the dump's own or the kernel's comparison; each contract: ONE APPLICATION.
-/
namespace Go.Proofs
open Go.Shelf
def Tryz.lays129_ren : Go.Shelf.Ren := ⟨fun | 129 => 197 | n => n, fun | 53 => 208 | 3 => 3 | 4 => 4 | 46 => 222 | 5 => 5 | 9 => 9 | n => n, fun | n => n⟩
theorem Tryz.lays129 : Go.Proofs.Lays.n129 Tryz.prog Tryz.lays129_ren := {
  mixed := by kernel_rfl
  f129 := Tryz.func197.trans (congrArg some (by kernel_rfl))
  t3 := Tryz.underlying3
  a3 := Tryz.isAgg3
  z3 := Tryz.sizeOf3
  v3 := Tryz.zeroValue3
  t4 := Tryz.underlying4
  a4 := Tryz.isAgg4
  z4 := Tryz.sizeOf4
  v4 := Tryz.zeroValue4
  t5 := Tryz.underlying5
  a5 := Tryz.isAgg5
  z5 := Tryz.sizeOf5
  v5 := Tryz.zeroValue5
  t9 := Tryz.underlying9
  a9 := Tryz.isAgg9
  z9 := Tryz.sizeOf9
  v9 := Tryz.zeroValue9
  t46 := Tryz.underlying222
  a46 := Tryz.isAgg222
  z46 := Tryz.sizeOf222
  v46 := Tryz.zeroValue222
  t53 := Tryz.underlying208
  a53 := Tryz.isAgg208
  z53 := Tryz.sizeOf208
  v53 := Tryz.zeroValue208 }
def Tryz.lays317_ren : Go.Shelf.Ren := ⟨fun | 317 => 249 | n => n, fun | 3 => 3 | 46 => 222 | n => n, fun | n => n⟩
theorem Tryz.lays317 : Go.Proofs.Lays.n317 Tryz.prog Tryz.lays317_ren := {
  mixed := by kernel_rfl
  f317 := Tryz.func249.trans (congrArg some (by kernel_rfl))
  t3 := Tryz.underlying3
  a3 := Tryz.isAgg3
  z3 := Tryz.sizeOf3
  v3 := Tryz.zeroValue3
  t46 := Tryz.underlying222
  a46 := Tryz.isAgg222
  z46 := Tryz.sizeOf222
  v46 := Tryz.zeroValue222 }
end Go.Proofs

namespace Go.Proofs.YthcoigbkdbkojaaGreat
open Go.RowKit

/-- The library's table of powers, whatever it says. -/
def Tab (T : Nat → Int) (w : World) : Prop := ∃ (cs : Array Value) (t : TypeId), t ≠ 5 ∧ w.heap[1]? = some (.cells cs t (0, 0)) ∧ ∀ n, n < 20 → cs[n]? = some (.int .u64 (T n))

theorem Tab.cell {T : Nat → Int} {w : World} (h : Tab T w) (n : Nat) (hn : n < 20) : w.cell? ⟨1, n, none⟩ = some (.int .u64 (T n)) := by
  obtain ⟨cs, t, _, h1, h2⟩ := h
  simp [World.cell?, h1, h2 n hn]

theorem Tab.lt {T : Nat → Int} {w : World} (h : Tab T w) : 1 < w.heap.size := by
  obtain ⟨cs, t, _, h1, _⟩ := h
  exact (Array.getElem?_eq_some_iff.1 h1).1

theorem Tab.of_block {T : Nat → Int} {w w' : World} (h : Tab T w) (e : w'.heap[1]? = w.heap[1]?) : Tab T w' := by
  obtain ⟨cs, t, h0, h1, h2⟩ := h
  exact ⟨cs, t, h0, e.trans h1, h2⟩

theorem Tab.below {T : Nat → Int} {w w' : World} (h : Tab T w) (hb : Below w.heap.size w w') : Tab T w' := h.of_block (hb.block 1 h.lt)

theorem Tab.grown {T : Nat → Int} {w w' : World} {B : Nat} {v : Value} {n : Nat} {xs : List Value} (h : Tab T w) (ho : w.ownsRow B 5 1 v n xs) (hg : w.grownBy w' v.ownBlock) : Tab T w' := by
  refine h.of_block (hg.block 1 h.lt ?_)
  intro e
  obtain ⟨cs, t, h0, h1, _⟩ := h
  rcases ho.2 with ⟨rfl, _⟩ | ⟨g, cap, cur, rfl, _, hb, _⟩
  · simp [Value.ownBlock] at e
  · simp [Value.ownBlock] at e
    subst e
    rw [h1] at hb
    injection hb with hb
    injection hb with _ hb
    exact h0 hb

/-- The length that a number's digits are given by that table. -/
def ndT (T : Nat → Int) (u : Nat) : Nat := Lib.l10 (Lib.bitLen u) + if T (Lib.l10 (Lib.bitLen u)) ≤ (u : Int) then 1 else 0

theorem ndT_bd (T : Nat → Int) (u : Nat) (h1 : 100 ≤ u) (h2 : u < 18446744073709551616) : 2 ≤ ndT T u ∧ ndT T u ≤ 20 ∧ u < 10 ^ (ndT T u + 1) := by
  obtain ⟨hnd, h19⟩ := Lib.numDigits_eq u (by omega) h2
  have hlt := Lib.lt_pow_nDigits u
  have h3 : 3 ≤ Lib.nDigits u := by
    rcases Nat.lt_or_ge (Lib.nDigits u) 3 with h | h
    · have : (10 : Nat) ^ Lib.nDigits u ≤ 10 ^ 2 := Nat.pow_le_pow_right (by omega) (by omega)
      omega
    · exact h
  have hq : Lib.nDigits u ≤ Lib.l10 (Lib.bitLen u) + 1 := by rw [← hnd]; split <;> omega
  have hq2 : Lib.l10 (Lib.bitLen u) ≤ ndT T u := by unfold ndT; omega
  refine ⟨by omega, by unfold ndT; split <;> omega, ?_⟩
  exact Nat.lt_of_lt_of_le hlt (Nat.pow_le_pow_right (by omega) (by omega))

set_option maxRecDepth 100000 in
set_option maxHeartbeats 800000 in
theorem bool2_any (b : Bool) (w : World) : Calls Tryz.prog 250 #[.bool b] w fun e w' => e = .returned (.int .i64 (if b = true then 1 else 0)) ∧ w' = w := by
  cases b
  · go_enter Tryz.func250, Tryz.ntmps250
    go_wp2
    go_ret
    exact ⟨rfl, rfl⟩
  · go_enter Tryz.func250, Tryz.ntmps250
    go_wp2
    go_ret
    exact ⟨rfl, rfl⟩

set_option maxRecDepth 100000 in
set_option maxHeartbeats 1600000 in
theorem numDigits_any (T : Nat → Int) (u : Nat) (h1 : 100 ≤ u) (h2 : u < 18446744073709551616) (w : World) (ht : Tab T w) :
    Calls Tryz.prog 246 #[.int .u64 u] w fun e w' => e = .returned (.int .i64 (ndT T u)) ∧ w' = w := by
  obtain ⟨_, h19⟩ := Lib.numDigits_eq u (by omega) h2
  have hL : Lib.bitLen u ≤ 64 := Lib.bitLen_le u 64 (Nat.le_refl _) h2
  obtain ⟨q, hq⟩ : ∃ q, q = Lib.l10 (Lib.bitLen u) := ⟨_, rfl⟩
  obtain ⟨L, hLq⟩ : ∃ L, L = Lib.bitLen u := ⟨_, rfl⟩
  have hnd : (ndT T u : Int) = q + (if decide (T q ≤ (u : Int)) = true then 1 else 0) := by
    unfold ndT
    rw [← hq]
    by_cases h : T q ≤ (u : Int) <;> simp [h]
  have c1 : ∀ w, Calls Tryz.prog 197 #[.int .u64 u] w fun e w' => e = .returned (.int .i64 L) ∧ w' = w := by
    intro w
    have := Any.bits_Len64 Tryz.lays129 (u : Int) w (by omega) (by omega)
    rw [show ((u : Int)).toNat = u by omega, ← hLq] at this
    exact this
  have c2 : ∀ w, Calls Tryz.prog 249 #[.int .i64 L] w fun e w' => e = .returned (.int .i64 q) ∧ w' = w := by
    intro w
    have := Any.internal_strconv_log10Pow2 Tryz.lays317 L (by omega) w
    rw [hLq, ← hq] at this
    rw [hLq]
    exact this
  rw [← hq] at h19
  have hc := ht.cell q (by omega)
  have h20 : q < 20 := by omega
  have hb2 := bool2_any (decide (T q ≤ (u : Int)))
  obtain ⟨b, hb⟩ : ∃ b, b = decide (T q ≤ (u : Int)) := ⟨_, rfl⟩
  obtain ⟨t, htq⟩ : ∃ t, t = T q := ⟨_, rfl⟩
  rw [hnd]
  rw [← hb] at hb2 ⊢
  rw [← htq] at hc hb
  have C1 := hid c1
  have C2 := hid c2
  have CB := hid hb2
  have HB := hid hb
  clear c1 c2 hb2 hb htq hnd hq hLq ht hL
  cases b
  all_goals
    go_enter Tryz.func246, Tryz.ntmps246
    go_wp2_with (first
      | (go_at_call 197; refine (C1.out _).mono ?_; rintro e w' ⟨rfl, e1⟩; rw [e1]; clear e1 w')
      | (go_at_call 249; refine (C2.out _).mono ?_; rintro e w' ⟨rfl, e1⟩; rw [e1]; clear e1 w')
      | (go_at_call 250; (rw [← HB.out]); refine (CB.out _).mono ?_; rintro e w' ⟨rfl, e1⟩; rw [e1]; clear e1 w'))
    go_ret
    exact ⟨by simp, rfl⟩

end Go.Proofs.YthcoigbkdbkojaaGreat

namespace Go.Proofs.YthcoigbkdbkojaaGreat
open Go.RowKit

/-- A slice of bytes, nil or with an address. -/
def Sn (w : World) (v : Value) (bs : List Int) : Prop := Sl w v bs ∧ (v = .slice none 0 0 ∨ ∃ a n c, v = .slice (some a) n c)

theorem Sn.kept {w w' : World} {v : Value} {bs : List Int} {S : Nat → Prop} (h : Sn w v bs) (hk : Kept S w w') (hn : ∀ k, v.ownBlock = some k → ¬ S k) : Sn w' v bs := ⟨h.1.kept hk hn, h.2⟩
theorem Sn.below {w w' : World} {v : Value} {bs : List Int} (h : Sn w v bs) (hk : Below w.heap.size w w') : Sn w' v bs := ⟨h.1.below hk, h.2⟩
theorem Sn.alloc {w : World} {v : Value} {bs : List Int} (h : Sn w v bs) (o : Obj) : Sn (w.alloc o) v bs := h.below ((Below.refl _ _).alloc (Nat.le_refl _) o)

set_option maxRecDepth 100000 in
theorem append_sn (w : World) (ty : TypeId) (B : Nat) (v : Value) (n : Nat) (xs : List Int) (hown : w.ownsRow B 5 1 v n (B8 xs)) (sv : Value) (ys : List Int) (hsn : Sn w sv ys) (hl : n + ys.length ≤ 100000000000) (hbase : B ≤ w.heap.size) :
    ∃ v' w', (Builtin.append_ #[201, 201] ty #[v, sv]).run Tryz.prog w = .ok v' w' ∧ w'.ownsRow B 5 1 v' (n + ys.length) (B8 (xs ++ ys)) ∧ w.grownBy w' v.ownBlock ∧ (v'.ownBlock = v.ownBlock ∨ v'.ownBlock = some w.heap.size) := by
  obtain ⟨i0, hi, hz0, hz1, hz2⟩ := info_parts Tryz.info5
  obtain ⟨⟨ao, cap, rfl, hc, hx⟩, hsh⟩ := hsn
  rcases hsh with hsh | ⟨a, m, c, hsh⟩
  · injection hsh with h1 h2 h3
    have hy : ys = [] := List.eq_nil_of_length_eq_zero h2
    subst hy
    subst h1 h3
    refine ⟨v, w, run_append_owned_none (P := Tryz.prog) (w := w) B 201 ty 5 i0 1 Tryz.underlying201 hi v n (B8 xs) hown, by simpa using hown, ⟨rfl, rfl, rfl, Nat.le_refl _, fun _ _ _ => rfl⟩, .inl rfl⟩
  · injection hsh with h1 h2 h3
    subst h1 h2 h3
    obtain ⟨v', w', hr, q1, q2, _, q4⟩ := run_append_own_at (P := Tryz.prog) w B 201 ty 5 i0 (.int .u8 0) 1 1 Tryz.underlying201 hi hz0 hz1 hz2 rfl (by omega) v n (B8 xs) hown a ys.length cap (B8 ys) (by simp) (by
      intro j u hu
      rw [List.getElem?_map, Option.map_eq_some_iff] at hu
      obtain ⟨y, hy, rfl⟩ := hu
      obtain ⟨b, off, e, hj⟩ := hx (by intro e; subst e; simp at hy)
      injection e with e
      subst e
      rw [add_lit]
      exact hj j y hy) (by intro u hu; obtain ⟨_, _, rfl⟩ := List.mem_map.1 hu; rfl) (by unfold maxLen; omega) (by omega) hbase
    exact ⟨v', w', hr, by simpa using q1, q2, q4⟩

theorem wpList_append_sn (w : World) {ops : Array Oper} {rest : List Oper} {o : Oper} {a : Act} {Q : Exit → Act → World → Prop} (hgd : o.guard = none) (s x : Operand)
    (ho : o.op = .call { callee := .builtin .append, args := #[s, x], argTypes := #[201, 201] }) (B : Nat) (v : Value) (n : Nat) (xs : List Int) (hs : a.eval s = v) (hown : w.ownsRow B 5 1 v n (B8 xs))
    (sv : Value) (ys : List Int) (hx : a.eval x = sv) (hsn : Sn w sv ys) (hl : n + ys.length ≤ 100000000000) (hbase : B ≤ w.heap.size)
    (h : ∀ ao c w', w'.ownsRow B 5 1 (.slice ao (n + ys.length) c) (n + ys.length) (B8 (xs ++ ys)) → w.grownBy w' v.ownBlock → wpList Tryz.prog ops Q rest (a.put o.dst (.slice ao (n + ys.length) c)) w') : wpList Tryz.prog ops Q (o :: rest) a w := by
  refine wpList_plain hgd fun K hK => ?_
  obtain ⟨v', w', hr, h2, h3, _⟩ := append_sn w o.type B v n xs hown sv ys hsn hl hbase
  obtain ⟨ao, c, rfl⟩ : ∃ ao c, v' = .slice ao (n + ys.length) c := by
    rcases h2.2 with ⟨e1, e2⟩ | ⟨g, cap, cur, e1, _⟩
    · exact ⟨none, 0, by rw [e1, e2]⟩
    · exact ⟨_, _, e1⟩
  unfold Oper.wp execOp
  simp only [ho, resolve, invoke, builtin, Sem.run_bind, Sem.run_pure, Result.andThen_ok, List.map_toArray, List.map_cons, List.map_nil, hs, hx, hr]
  exact hK _ _ (h ao c w' h2 h3)

end Go.Proofs.YthcoigbkdbkojaaGreat

namespace Go.Proofs.YthcoigbkdbkojaaGreat
open Go.RowKit

/-- formatBase10 lays these digits. -/
def Fmt (nd u : Nat) (ds : List Int) : Prop := ∀ (w : World) (g cp : Nat) (t : TypeId) (r : List Int), w.heap[g]? = some (.cells (B8 (List.replicate nd 0 ++ r)).toArray t (0, 0)) →
      Calls Tryz.prog 247 #[.slice (some ⟨g, 0, none⟩) nd cp, .int .u64 u] w fun e w' => e = .returned (.tuple #[]) ∧ w'.heap[g]? = some (.cells (B8 (ds ++ r)).toArray t (0, 0)) ∧ Kept (fun k => k = g) w w'

theorem below_kept {B g : Nat} {a b c : World} (h : Below B a b) (hk : Kept (fun k => k = g) b c) (hB : B ≤ g) (hb : B ≤ b.heap.size) : Below B a c :=
  ⟨hk.os.trans h.os, hk.tape.trans h.tape, hk.output.trans h.output, Nat.le_trans h.size hk.size, fun k hkb => (hk.block k (by omega) (by omega)).trans (h.block k hkb)⟩

theorem sn_block {w : World} {g c : Nat} {t : TypeId} {ds r : List Int} (h : w.heap[g]? = some (.cells (B8 (ds ++ r)).toArray t (0, 0))) (hc : ds.length ≤ c) : Sn w (.slice (some ⟨g, 0, none⟩) ds.length c) ds := by
  refine ⟨⟨some ⟨g, 0, none⟩, c, rfl, hc, fun _ => ⟨g, 0, rfl, ?_⟩⟩, .inr ⟨_, _, _, rfl⟩⟩
  intro j y hy
  rw [cell_of_row w g _ _ _ _ h]
  have hj := (List.getElem?_eq_some_iff.1 hy).1
  have hy2 : ds[j] = y := (List.getElem?_eq_some_iff.1 hy).2
  simp [hj, hy2, List.getElem?_append_left]

abbrev zer : Obj := .cells (B8 (List.replicate 24 0)).toArray 280

set_option maxRecDepth 100000 in
set_option maxHeartbeats 1600000 in
theorem appendUint_big (T : Nat → Int) (u : Nat) (h1 : 100 ≤ u) (h2 : u < 18446744073709551616) (ds : List Int) (hd : ds.length = ndT T u) (hF : Fmt (ndT T u) u ds) (B : Nat) (v : Value) (xs : List Int) (w : World) (ht : Tab T w) (ho : w.ownsRow B 5 1 v xs.length (B8 xs)) (hB : B ≤ w.heap.size) (hl : xs.length ≤ 100000000) :
    Calls Tryz.prog 244 #[v, .int .u64 u, .int .i64 10] w (LayPost B xs ds w) := by
  have g1 : (100 : Int) ≤ (u : Int) := by omega
  have hbd := ndT_bd T u h1 h2
  have hN := fun w h => numDigits_any T u h1 h2 w h
  obtain ⟨nd, hnd⟩ : ∃ nd, nd = ndT T u := ⟨_, rfl⟩
  rw [← hnd] at hbd hd hF
  have hN : ∀ w, Tab T w → Calls Tryz.prog 246 #[.int .u64 u] w fun e w' => e = .returned (.int .i64 nd) ∧ w' = w := by rw [hnd]; exact hN
  have n2 : 2 ≤ nd := hbd.1
  have n20 : nd ≤ 20 := hbd.2.1
  have HT := hid ht
  have HO := hid ho
  have HN := hid hN
  have HF := hid hF
  have HD := hid hd
  clear ht ho h1 h2 hbd hN hF hnd hd
  have hz : (w.alloc zer).heap[w.heap.size]? = some (.cells (B8 (List.replicate nd 0 ++ List.replicate (24 - nd) 0)).toArray 280 (0, 0)) := by
    rw [List.replicate_append_replicate, show nd + (24 - nd) = 24 by omega]
    exact heap_alloc_new w _
  have HZ := hid hz
  clear hz
  unfold LayPost
  have hsl : ∀ W, (Instr.sliceAt 280 (.pointer (some ⟨w.heap.size, 0, none⟩)) none (some (.int .i64 (nd : Int))) none).run Tryz.prog W = .ok (.slice (some ⟨w.heap.size, 0, none⟩) nd 24) W := fun W => by
    have hal : Tryz.prog.arrayLen 280 = 24 := by simp [Program.arrayLen, Tryz.underlying280]
    rw [run_sliceAt_array_h W 280 ⟨w.heap.size, 0, none⟩ (by simp [Program.arrayLen, Program.elem, Tryz.underlying280]) .i64 (nd : Int) (by omega) (by rw [hal]; omega)]
    go_simp
  go_enter Tryz.func244, Tryz.ntmps244
  go_wp2_with (first
    | (go_at_call 246
       refine (HN.out _ (HT.out.below (below1 w _))).mono ?_
       rintro e w' ⟨rfl, e1⟩
       rw [e1]
       clear e1 w')
    | (go_at_call 247; go_loud (
       refine (HF.out (w.alloc zer) w.heap.size 24 280 _ HZ.out).mono ?_
       rintro e w1 ⟨rfl, hr, hk⟩
       have H1 := hid (And.intro (sn_block (c := 24) hr (by rw [HD.out]; omega)) (And.intro (ownsRow_kept (HO.out.alloc zer) hk (fun k hv => by have hlt := HO.out.lt k hv; intro e; subst e; omega)) (below_kept ((Below.refl B w).alloc hB zer) hk hB (by simp; omega))))
       clear hr hk))
    | (at_builtin; go_loud (
       refine wpList_append_sn _ rfl _ _ rfl B _ xs.length xs rfl H1.out.2.1 _ ds (by rw [HD.out]; rfl) H1.out.1 (by rw [HD.out]; omega) (Nat.le_trans hB H1.out.2.2.size) ?_
       intro ao c w2 hown hgrow
       have H2 := hid (And.intro hown (below_grown H1.out.2.2 hB H1.out.2.1 hgrow))
       clear hown hgrow)))
  go_ret
  exact ⟨_, rfl, by simpa using H2.out.1, H2.out.2⟩

end Go.Proofs.YthcoigbkdbkojaaGreat

namespace Go.Proofs
open Go.Shelf
def Tryz.lays283_ren : Go.Shelf.Ren := ⟨fun | 283 => 245 | n => n, fun | 3 => 3 | 4 => 4 | 9 => 9 | n => n, fun | n => n⟩
theorem Tryz.lays283 : Go.Proofs.Lays.n283 Tryz.prog Tryz.lays283_ren := {
  mixed := by kernel_rfl
  f283 := Tryz.func245.trans (congrArg some (by kernel_rfl))
  t3 := Tryz.underlying3
  a3 := Tryz.isAgg3
  z3 := Tryz.sizeOf3
  v3 := Tryz.zeroValue3
  t4 := Tryz.underlying4
  a4 := Tryz.isAgg4
  z4 := Tryz.sizeOf4
  v4 := Tryz.zeroValue4
  t9 := Tryz.underlying9
  a9 := Tryz.isAgg9
  z9 := Tryz.sizeOf9
  v9 := Tryz.zeroValue9 }
end Go.Proofs
namespace Go.Proofs.YthcoigbkdbkojaaGreat
open Go.RowKit Go.Lib

theorem small_any (u : Nat) (h : u < 100) (w : World) : Calls Tryz.prog 245 #[.int .i64 u] w fun e w' => e = .returned (.string ⟨(Lib.decDigits u).toArray⟩) ∧ w' = w := Any.internal_strconv_small Tryz.lays283 u h w

set_option maxRecDepth 100000 in
set_option maxHeartbeats 800000 in
theorem appendUint_small (u : Nat) (hu : u < 100) (s : ByteArray) (hs : s = ⟨(Lib.decDigits u).toArray⟩) (hsz : s.size ≤ 20) (B : Nat) (v : Value) (xs : List Int) (w : World) (ho : w.ownsRow B 5 1 v xs.length (B8 xs)) (hB : B ≤ w.heap.size) (hl : xs.length ≤ 100000000) :
    Calls Tryz.prog 244 #[v, .int .u64 u, .int .i64 10] w (LayPost B xs (strBs s) w) := by
  obtain ⟨i0, hi, hz0, hz1, hz2⟩ := info_parts Tryz.info5
  have HO := hid ho
  have hS := small_any u hu
  rw [← hs] at hS
  have HS := hid hS
  have iu : (u : Int) < 100 := by omega
  clear ho hS hs hu
  unfold LayPost
  go_enter Tryz.func244, Tryz.ntmps244
  go_wp2_with (first
    | (go_at_call 245
       refine (HS.out _).mono ?_
       rintro e w1 ⟨rfl, e1⟩
       rw [e1]
       clear e1 w1)
    | (at_builtin; go_loud (
       refine wpList_append_own_string _ rfl _ _ 201 9 rfl B 5 i0 Tryz.underlying201 Tryz.underlying9 hi hz0 hz1 hz2 _ xs.length (B8 xs) rfl HO.out s rfl (by unfold maxLen; omega) (by omega) hB ?_
       intro v' w1 hown hgrow _
       have H1 := hid (lay_post hB HO.out hown hgrow)
       clear hown hgrow)))
  go_ret
  exact ⟨_, rfl, H1.out.1, H1.out.2⟩

/-- AppendUint lays these digits wherever the table says T. -/
def ULay (T : Nat → Int) (u : Nat) (ds : List Int) : Prop := ∀ (B : Nat) (v : Value) (xs : List Int) (w : World), Tab T w → w.ownsRow B 5 1 v xs.length (B8 xs) → B ≤ w.heap.size → xs.length ≤ 100000000 → Calls Tryz.prog 244 #[v, .int .u64 u, .int .i64 10] w (LayPost B xs ds w)

set_option maxRecDepth 100000 in
set_option maxHeartbeats 800000 in
theorem appendInt_pos (T : Nat → Int) (u : Nat) (hu : u ≤ 9223372036854775807) (ds : List Int) (hU : ULay T u ds) (B : Nat) (v : Value) (xs : List Int) (w : World) (ht : Tab T w) (ho : w.ownsRow B 5 1 v xs.length (B8 xs)) (hB : B ≤ w.heap.size) (hl : xs.length ≤ 10000000) :
    Calls Tryz.prog 243 #[v, .int .i64 u, .int .i64 10] w (LayPost B xs ds w) := by
  have HA := hid (hU B v xs w ht ho hB (by omega))
  have iu : (u : Int) ≤ 9223372036854775807 := by omega
  have i0 : (0 : Int) ≤ (u : Int) := by omega
  clear ho ht hU
  unfold LayPost at *
  go_enter Tryz.func243, Tryz.ntmps243
  go_wp2_with (go_at_call 244; go_loud (refine HA.out.mono ?_; rintro e w1 ⟨v', rfl, h⟩))
  go_ret
  exact ⟨_, rfl, h⟩

set_option maxRecDepth 100000 in
set_option maxHeartbeats 800000 in
theorem appendInt_neg (T : Nat → Int) (u : Nat) (h1 : 1 ≤ u) (hu : u ≤ 9223372036854775808) (ds : List Int) (hU : ULay T u ds) (B : Nat) (v : Value) (xs : List Int) (w : World) (ht : Tab T w) (ho : w.ownsRow B 5 1 v xs.length (B8 xs)) (hB : B ≤ w.heap.size) (hl : xs.length ≤ 10000000) :
    Calls Tryz.prog 243 #[v, .int .i64 (-(u : Int)), .int .i64 10] w (LayPost B xs (45 :: ds) w) := by
  obtain ⟨i0, hi, hz0, hz1, hz2⟩ := info_parts Tryz.info5
  obtain ⟨i, hI⟩ : ∃ i : Int, i = -(u : Int) := ⟨_, rfl⟩
  have i1 : i < 0 := by omega
  have i2 : -9223372036854775808 ≤ i := by omega
  have HI := hid hI
  rw [← hI]
  have HO := hid ho
  have HT := hid ht
  have HU := hid hU
  have w1 : IntKind.u64.wrap i = i + 18446744073709551616 := by rw [IntKind.wrap_u64]; omega
  have w2 : IntKind.u64.wrap (-(i + 18446744073709551616)) = u := by rw [IntKind.wrap_u64]; omega
  have w3 : IntKind.u64.wrap (-IntKind.u64.wrap i) = u := by rw [w1, w2]
  have w4 : IntKind.u64.wrap (-i) = u := by rw [IntKind.wrap_u64]; omega
  clear ho ht hU hI h1 hu
  unfold LayPost
  go_enter Tryz.func243, Tryz.ntmps243
  go_wp2_with (first
    | (at_builtin; go_loud (
       refine wpList_append_lies _ rfl _ _ _ rfl B 5 i0 (.int .u8 0) 1 1 Tryz.underlying201 hi hz0 hz1 hz2 rfl (by omega) _ xs.length (B8 xs) rfl (HO.out.alloc _) ⟨w.heap.size, 0, none⟩ 1 1 [.int .u8 45] rfl rfl (World.news_of_block (cs := #[.int .u8 45]) (t := 5) (fr := (0, 0)) (heap_alloc_new w _)) (by simp [Value.oneCell']) (by omega) (by unfold maxLen; omega) (by omega) (by simp; omega) (w.heap.size + 1) (by simp) ?_
       intro gg cq w1 hown hgrow hat hgl
       have H1 := hid (And.intro hown (And.intro (below_grown ((Below.refl B w).alloc hB _) hB (HO.out.alloc _) hgrow) ((HT.out.below (below1 w _)).grown (HO.out.alloc _) hgrow)))
       clear hown hgrow hat hgl))
    | (go_at_call 244; go_loud (
       refine (HU.out B _ (xs ++ [45]) w1 H1.out.2.2 (by simpa using H1.out.1) (Nat.le_trans hB H1.out.2.1.size) (by simp; omega)).mono ?_
       rintro e w2 ⟨v', rfl, ho2, hb2⟩
       have H2 := hid (And.intro ho2 (H1.out.2.1.trans hb2))
       clear ho2 hb2)))
  go_ret
  exact ⟨_, rfl, by simpa using H2.out.1, H2.out.2⟩

end Go.Proofs.YthcoigbkdbkojaaGreat
