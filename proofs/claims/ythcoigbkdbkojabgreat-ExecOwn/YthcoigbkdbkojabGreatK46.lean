import Derived.Test.YthcoigbkdbkojabGreatK45
import Derived.Test.YthcoigbkdbkojabGreatK39
import Derived.HandedShaped
set_option maxRecDepth 100000
namespace Go.Proofs.YthcoigbkdbkojabGreat
open Go.RowKit Go.MapKept
set_option maxHeartbeats 3200000 in
theorem own_long1 (v : Value) (nm : ByteArray) (ar : Int) (S A : Value) (xs : List Ins) (w : World) (hc : Rf w 8 S xs.length (xs.flatMap Ins.cells)) (hl : 1000 < xs.length) : Calls Tryz.prog 4 #[v, .agg #[.string nm, .int .i64 ar, S], A] w fun e w' => e = .returned (.bool true) ∧ Below w.heap.size w w' := by
  obtain ⟨ac, cc, rfl, -, -⟩ := hc.shape
  obtain ⟨n, hn⟩ : ∃ n, n = xs.length := ⟨_, rfl⟩
  rw [← hn] at hl ⊢
  have l1 : (1000 : Int) < (n : Int) := by omega
  have H0 := hid (below1 w (.cells #[.string nm, .int .i64 ar, .slice ac n cc] 34))
  clear hl hn hc
  go_enter Tryz.func4, Tryz.ntmps4
  go_wp2_with fail
  go_ret
  exact ⟨rfl, H0.out⟩
set_option maxHeartbeats 3200000 in
theorem own_long2 (v : Value) (nm : ByteArray) (ar : Int) (S A : Value) (xs : List Ins) (al : List Vd) (w : World) (hc : Rf w 8 S xs.length (xs.flatMap Ins.cells)) (ha : Rf w 3 A al.length (al.flatMap vcs)) (hl : xs.length ≤ 1000) (hla : 1000 < al.length) : Calls Tryz.prog 4 #[v, .agg #[.string nm, .int .i64 ar, S], A] w fun e w' => e = .returned (.bool true) ∧ Below w.heap.size w w' := by
  obtain ⟨ac, cc, rfl, -, -⟩ := hc.shape
  obtain ⟨aa, ca, rfl, -, -⟩ := ha.shape
  obtain ⟨n, hn⟩ : ∃ n, n = xs.length := ⟨_, rfl⟩
  obtain ⟨m, hm⟩ : ∃ m, m = al.length := ⟨_, rfl⟩
  rw [← hn] at hl ⊢
  rw [← hm] at hla ⊢
  have l1 : ¬ (1000 : Int) < (n : Int) := by omega
  have l2 : (1000 : Int) < (m : Int) := by omega
  have H0 := hid (below1 w (.cells #[.string nm, .int .i64 ar, .slice ac n cc] 34))
  clear hl hla hn hm hc ha
  go_enter Tryz.func4, Tryz.ntmps4
  go_wp2_with fail
  go_ret
  exact ⟨rfl, H0.out⟩
theorem own_any (v : Value) (es : List (ByteArray × Vd)) (nm : ByteArray) (ar : Int) (S A : Value) (xs : List Ins) (al : List Vd) (w : World) (dig : Int → List Int) (h : Rf w 4 v es.length (es.flatMap ecs)) (hc : Rf w 8 S xs.length (xs.flatMap Ins.cells)) (ha : Rf w 3 A al.length (al.flatMap vcs))
    (hie : ∀ x ∈ es, inR x.2.i = true) (hi : ∀ x ∈ xs, inR x.i = true) (hv : ∀ x ∈ al, inR x.i = true) (hd : Digs dig w) :
    Calls Tryz.prog 4 #[v, .agg #[.string nm, .int .i64 ar, S], A] w fun e w' => e = .returned (.bool true) ∧ Below w.heap.size w w' := by
  by_cases hl : xs.length ≤ 1000
  · by_cases hla : al.length ≤ 1000
    · have hT : SOk (mdG (es.take 400)) := mdG_ok _
      have hTi : ∀ x ∈ mdG (es.take 400), inR x.2.i = true := fun x hx => hie x (List.mem_of_mem_take (mdG_mem hx))
      have hE := ef_ends (dig := dig) (L := mdG (es.take 400)) (nm := nm) (ar := ar) (xs := xs) (al := al) (hT.lok hTi) hi hv
      exact own_law v es nm ar S A xs al w dig _ _ h rfl hc ha hl hla hie hi hv hd rfl hE
    · exact own_long2 v nm ar S A xs al w hc ha hl (by omega)
  · exact own_long1 v nm ar S A xs w hc (by omega)
end Go.Proofs.YthcoigbkdbkojabGreat
namespace Go.Proofs.YthcoigbkdbkojabGreat
open Go.RowKit Go.WideShapes Go.ChangeAt Go.ChangeShapes
theorem procR_of_trod {H : Type} {enc : TypeId × Value → H} {W : World} {base b2 : Nat} {held : Bool} {v : Value} {d : DataW H} {p : List MemPlace} (hv : Value.okWide Tryz.prog W .any b2 34 v)
    (h : DataW.Trod enc Tryz.prog W base (fun _ => true) held 34 v d p) : ∃ (nm : ByteArray) (ar : Int) (S : Value) (xs : List Ins), v = .agg #[.string nm, .int .i64 ar, S] ∧ Rf W 8 S xs.length (xs.flatMap Ins.cells) ∧ (∀ x ∈ xs, inR x.i = true) := by
  obtain ⟨⟨cs⟩, rfl, _⟩ := okWide_struct Tryz.underlying34 hv
  obtain ⟨fuel, hf0⟩ := h
  have hf0 : DataW.trod enc Tryz.prog W base (fun _ => true) held fuel 34 cs = some (d, p) := by simpa [Value.cells] using hf0
  obtain ⟨xs, n, _, hd, hl, hlen, hf⟩ := DataW.trod_struct Tryz.underlying34 hf0
  rw [Tryz.cells34] at hl
  match cs, hl, xs, hlen with
  | [c0, c1, c2], _, [y0, y1, y2], _ =>
    have f0 : DataW.trod enc Tryz.prog W base (fun _ => true) held n 9 (([c0, c1, c2].drop 0).take (Tryz.prog.cellsOf 9)) = some y0 := hf 0 _ rfl
    have f1 : DataW.trod enc Tryz.prog W base (fun _ => true) held n 3 (([c0, c1, c2].drop 1).take (Tryz.prog.cellsOf 3)) = some y1 := hf 1 _ rfl
    have f2 : DataW.trod enc Tryz.prog W base (fun _ => true) held n 32 (([c0, c1, c2].drop 2).take (Tryz.prog.cellsOf 32)) = some y2 := hf 2 _ rfl
    rw [Tryz.cells9] at f0
    rw [Tryz.cells3] at f1
    rw [Tryz.cells32] at f2
    obtain ⟨s, e0, _, _⟩ := DataW.trod_string Tryz.underlying9 (x := y0) (by simpa using f0)
    obtain ⟨a1, e1, _, _⟩ := DataW.trod_int Tryz.underlying3 (x := y1) (by simpa using f1)
    obtain ⟨S, ys, e2, hR, hO⟩ := rf_of_trod Ins.cells (fun x => inR x.i = true) 8 ins_cells ins_one Tryz.underlying32 Tryz.cells31 (fun _ _ _ h => ins_of_trod h) f2
    simp at e0 e1 e2
    subst e0 e1 e2
    exact ⟨s, a1, _, ys, rfl, hR, hO⟩
theorem valsR_of_trod {H : Type} {enc : TypeId × Value → H} {W : World} {base b2 : Nat} {held : Bool} {v : Value} {d : DataW H} {p : List MemPlace} (hv : Value.okWide Tryz.prog W .any b2 35 v)
    (h : DataW.Trod enc Tryz.prog W base (fun _ => true) held 35 v d p) : ∃ vs : List Vd, Rf W 3 v vs.length (vs.flatMap vcs) ∧ ∀ x ∈ vs, inR x.i = true := by
  obtain ⟨fuel, hf⟩ := h
  obtain ⟨S, ys, e, hR, hO⟩ := rf_of_trod vcs (fun x => inR x.i = true) 3 vcs_len vcs_one1 Tryz.underlying35 Tryz.cells29 (fun _ _ _ h => vl_of_trod h) hf
  obtain ⟨ao, len, cap, rfl⟩ : ∃ ao len cap, v = .slice ao len cap := by
    obtain ⟨a, n, c, e2⟩ := okWide_slice Tryz.underlying35 hv
    exact ⟨a, n, c, e2⟩
  simp [Value.cells] at e
  subst e
  exact ⟨ys, hR, hO⟩
end Go.Proofs.YthcoigbkdbkojabGreat
namespace Go.Proofs.YthcoigbkdbkojabGreat
open Go.ChangeShapes Go.WideShapes Go.ChangeAt Go.RowKit
theorem Tryz.own : ownKnob Tryz.prog.godebug = none := by kernel_rfl
theorem Tryz.laidOut : laidOutB Tryz.prog = true := by kernel_rfl
theorem execOwn_lifted (os : Os) (started : os.Started) (H : Type) (enc : TypeId × Value → H) :
    ReturnsInHanded {} Tryz.checked os 4 .any (Rows.execOwnSpec.pre6 enc Tryz.prog Tryz.f4 Rows.execOwnRow.domain false) (Rows.execOwnSpec.post enc Tryz.prog Tryz.f4 false true false false) := by
  refine returnsInHanded_of_change_shaped (C := Tryz.checked) Tryz.own started (by kernel_rfl) Tryz.func4
    (ChangeSpec.witness6 (enc := enc) (C := Tryz.checked) false ⟨#[], #[.slice none 0 0, .agg #[.string ⟨#[]⟩, .int .i64 0, .slice none 0 0], .slice none 0 0], []⟩ 4 (by kernel_rfl) (by kernel_rfl) (by kernel_rfl) (by kernel_rfl)) ?_
  intro W base args ds gs before hval0 hW hcnd _ hsh _
  have hval : ∀ (j : Nat) t v, Tryz.f4.params[j]? = some t → args[j]? = some v → Value.okWide Tryz.prog W .any base t v := hval0
  have hW' := hW
  obtain ⟨p, q, hA0, hV, rfl, hfz, hnd⟩ := hW
  have hA : DataW.TrodAll enc Tryz.prog W 0 (fun _ => true) true Tryz.f4.params.toList args.toList ds p := hA0
  rw [Tryz.params4] at hA hval
  obtain ⟨v0, vs0, d0, ds0, p0, q0, hargs0, rfl, rfl, h0, r0⟩ := trodAll_cons hA
  obtain ⟨v1, vs1, d1, ds1, p1, q1, hargs1, rfl, rfl, h1, r1⟩ := trodAll_cons r0
  obtain ⟨v2, vs2, d2, ds2, p2, q2, hargs2, rfl, rfl, h2, r2⟩ := trodAll_cons r1
  obtain ⟨rfl, rfl, rfl⟩ := trodAll_nil r2
  subst hargs2 hargs1
  obtain rfl : args = #[v0, v1, v2] := by cases args; simp_all
  obtain ⟨rfl, rfl⟩ := trodVars_none hV
  have k0 := h0
  have k1 := h1
  have k2 := h2
  have lt0 : ∀ x ∈ p0, x.block < W.heap.size := by obtain ⟨m, hm⟩ := k0; exact DataW.trod_lt m _ _ _ hm
  have lt1 : ∀ x ∈ p1, x.block < W.heap.size := by obtain ⟨m, hm⟩ := k1; exact DataW.trod_lt m _ _ _ hm
  have lt2 : ∀ x ∈ p2, x.block < W.heap.size := by obtain ⟨m, hm⟩ := k2; exact DataW.trod_lt m _ _ _ hm
  obtain ⟨es, hR0, hI0⟩ := ents_of_trod (hval 0 22 v0 rfl rfl) h0
  obtain ⟨nm, ar, S, xs, rfl, hC1, hI1⟩ := procR_of_trod (hval 1 34 v1 rfl rfl) h1
  obtain ⟨al, hV2, hI2⟩ := valsR_of_trod (hval 2 35 v2 rfl rfl) h2
  clear hA0 hval0
  obtain ⟨T, hT⟩ := tab_of_shaped hsh
  obtain ⟨dig, hdig⟩ := digs_any T
  refine (own_any v0 es nm ar S v2 xs al W dig hR0 hC1 hV2 hI0 hI1 hI2 (hdig W hT)).mono fun e W' ⟨he, bel⟩ => ?_
  subst he
  exact ⟨_, rfl, _, _, _, [], _, [], hW', trodAll_mk1 (shut_bool Tryz.underlying4 _), (trodAll_cons_mk (Below.trod Tryz.laidOut (by kernel_rfl) (of_decide_eq_true (by kernel_rfl)) k0 bel lt0) (trodAll_cons_mk (Below.trod Tryz.laidOut (by kernel_rfl) (of_decide_eq_true (by kernel_rfl)) k1 bel lt1) (trodAll_cons_mk (Below.trod Tryz.laidOut (by kernel_rfl) (of_decide_eq_true (by kernel_rfl)) k2 bel lt2) trodAll_mk0))), rfl, bel.frame _, fun h => by cases h⟩
theorem execOwn_holds : Rows.ExecOwnSaid :=
  OpenClaim.holds_of_wide 4 Tryz.f4 rfl rfl rfl rfl rfl rfl rfl ⟨rfl, rfl, rfl, rfl, rfl⟩ rfl rfl rfl rfl rfl (by kernel_rfl) Tryz.func4 (by kernel_rfl)
    (of_decide_eq_true (by kernel_rfl)) (by unfold Func.isWrapper; first | (rw [if_pos (by decide +kernel)]; kernel_rfl) | (rw [if_neg (by decide +kernel)]; exact ⟨rfl, rfl⟩))
    (fun os started H enc _ => execOwn_lifted os started H enc)
#print axioms execOwn_holds
end Go.Proofs.YthcoigbkdbkojabGreat
