import Derived.Test.YtlmompdfombgeabGreatK29
import Derived.ProofKit
import Derived.OpenShut
import Derived.ShutString
import Derived.ChangeOld
namespace Go.Proofs.YtlmompdfombgeabGreat
open Go.ChangeShapes Go.WideShapes Go.ChangeAt Go.RowKit

theorem Tryz.own : ownKnob Tryz.prog.godebug = none := by kernel_rfl
theorem Tryz.laidOut : laidOutB Tryz.prog = true := by kernel_rfl
theorem Tryz.cells52 : Tryz.prog.cellsOf 52 = 3 := by kernel_rfl

set_option maxRecDepth 100000 in
set_option maxHeartbeats 3200000 in
theorem names_any (v : Value) (ts : List (Int × Int × Int)) (dn : Int) (fv : Value) (pk : List Pk) (w : World) (h : Rf w 3 v ts.length (ts.flatMap trn)) (hi : ∀ x ∈ ts, I64 x.1 ∧ I64 x.2.1 ∧ I64 x.2.2) (hdn : I64 dn) (hpk : Pks w fv pk) :
    Calls Tryz.prog 4 #[v, .int .i64 dn, fv] w fun x w' => x = .returned (.bool true) ∧ Below w.heap.size w w' := by
  by_cases ht : (ts.length : Int) ≤ 100
  · by_cases hp : (pk.length : Int) ≤ 300
    · exact names_law v ts dn fv pk w h hi hdn hpk ht hp
    · have hp' : (300 : Int) < (pk.length : Int) := by omega
      obtain ⟨ao, cap, rfl, -, -⟩ := h.shape
      obtain ⟨ap, cp, rfl, -, -⟩ := hpk.1.shape
      clear h hi hpk hdn
      go_enter Tryz.func4, Tryz.ntmps4
      go_wp2_with (
        go_at_call 8
        refine (known_any _).mono ?_
        rintro e w1 ⟨rfl, hb1⟩)
      go_ret
      exact ⟨rfl, hb1⟩
  · have ht' : (100 : Int) < (ts.length : Int) := by omega
    obtain ⟨ao, cap, rfl, -, -⟩ := h.shape
    obtain ⟨ap, cp, rfl, -, -⟩ := hpk.1.shape
    clear h hi hpk hdn
    go_enter Tryz.func4, Tryz.ntmps4
    go_wp2_with (
      go_at_call 8
      refine (known_any _).mono ?_
      rintro e w1 ⟨rfl, hb1⟩)
    go_ret
    exact ⟨rfl, hb1⟩

section
variable {H : Type} {enc : TypeId × Value → H} {W : World} {base : Nat} {held : Bool} {fuel : Nat} {cs : List Value} {x : DataW H × List MemPlace}

set_option maxRecDepth 100000 in
theorem turn_of_trod (h : DataW.trod enc Tryz.prog W base (fun _ => true) held fuel 52 cs = some x) : ∃ y : Int × Int × Int, (I64 y.1 ∧ I64 y.2.1 ∧ I64 y.2.2) ∧ cs = trn y := by
  obtain ⟨xs, n, _, rfl, hl, hlen, hf⟩ := DataW.trod_struct Tryz.underlying52 h
  rw [Tryz.cells52] at hl
  match cs, hl, xs, hlen with
  | [c0, c1, c2], _, [y0, y1, y2], _ =>
    have f0 : DataW.trod enc Tryz.prog W base (fun _ => true) held n 3 (([c0, c1, c2].drop 0).take (Tryz.prog.cellsOf 3)) = some y0 := hf 0 _ rfl
    have f1 : DataW.trod enc Tryz.prog W base (fun _ => true) held n 3 (([c0, c1, c2].drop 1).take (Tryz.prog.cellsOf 3)) = some y1 := hf 1 _ rfl
    have f2 : DataW.trod enc Tryz.prog W base (fun _ => true) held n 3 (([c0, c1, c2].drop 2).take (Tryz.prog.cellsOf 3)) = some y2 := hf 2 _ rfl
    rw [Tryz.cells3] at f0 f1 f2
    obtain ⟨a0, b0, e0⟩ := int_of_trod f0
    obtain ⟨a1, b1, e1⟩ := int_of_trod f1
    obtain ⟨a2, b2, e2⟩ := int_of_trod f2
    simp at e0 e1 e2
    subst e0 e1 e2
    exact ⟨(a0, a1, a2), ⟨b0, b1, b2⟩, rfl⟩

theorem turns_of_trod (h : DataW.trod enc Tryz.prog W base (fun _ => true) held fuel 48 cs = some x) : ∃ (v : Value) (ys : List (Int × Int × Int)), cs = [v] ∧ Rf W 3 v ys.length (ys.flatMap trn) ∧ ∀ y ∈ ys, I64 y.1 ∧ I64 y.2.1 ∧ I64 y.2.2 :=
  rf_of_trod trn (fun y => I64 y.1 ∧ I64 y.2.1 ∧ I64 y.2.2) 3 (fun _ => rfl) (fun y u hu => by
    unfold trn at hu
    simp at hu
    rcases hu with rfl | rfl | rfl <;> rfl) Tryz.underlying48 Tryz.cells52 (fun _ _ _ h => turn_of_trod h) h
end

set_option maxRecDepth 100000 in
theorem names_lifted (os : Os) (started : os.Started) (H : Type) (enc : TypeId × Value → H) :
    ReturnsInHanded {} Tryz.checked os 4 .any (Rows.diskNamesSpec.pre6 enc Tryz.prog Tryz.f4 Rows.diskNamesRow.domain false) (Rows.diskNamesSpec.post enc Tryz.prog Tryz.f4 false true false false) := by
  refine returnsInHanded_of_change (C := Tryz.checked) Tryz.own started (by kernel_rfl) Tryz.func4
    (ChangeSpec.witness6 (enc := enc) (C := Tryz.checked) false ⟨#[], #[.slice none 0 0, .int .i64 0, .slice none 0 0], []⟩ 8 (by kernel_rfl) (by kernel_rfl) (by kernel_rfl) (by kernel_rfl)) ?_
  intro W base args ds gs before hval0 hW hcnd _
  have hval : ∀ (j : Nat) t v, Tryz.f4.params[j]? = some t → args[j]? = some v → Value.okWide Tryz.prog W .any base t v := hval0
  have hW' := hW
  obtain ⟨p, q, hA0, hV, rfl, hfz, hnd⟩ := hW
  have hA : DataW.TrodAll enc Tryz.prog W 0 (fun _ => true) true Tryz.f4.params.toList args.toList ds p := hA0
  rw [Tryz.params4] at hA hval
  obtain ⟨v0, vs0, d0, ds0, p0, q0, hargs, rfl, rfl, h0, r0⟩ := trodAll_cons hA
  obtain ⟨v1, vs1, d1, ds1, p1, q1, rfl, rfl, rfl, h1, r1⟩ := trodAll_cons r0
  obtain ⟨v2, vs2, d2, ds2, p2, q2, rfl, rfl, rfl, h2, r2⟩ := trodAll_cons r1
  obtain ⟨rfl, rfl, rfl⟩ := trodAll_nil r2
  obtain rfl : args = #[v0, v1, v2] := by cases args; simp_all
  obtain ⟨rfl, rfl⟩ := trodVars_none hV
  obtain ⟨a0, len0, cap0, rfl⟩ := okWide_slice Tryz.underlying48 (hval 0 48 v0 rfl rfl)
  obtain ⟨x1, rfl, rfl, rfl, w1⟩ := open_int Tryz.underlying3 (hval 1 3 v1 rfl rfl) h1
  obtain ⟨a2, len2, cap2, rfl⟩ := okWide_slice Tryz.underlying23 (hval 2 23 v2 rfl rfl)
  have k0 := h0
  have k2 := h2
  have lt0 : ∀ x ∈ p0, x.block < W.heap.size := by obtain ⟨m, hm⟩ := k0; exact DataW.trod_lt m _ _ _ hm
  have lt2 : ∀ x ∈ p2, x.block < W.heap.size := by obtain ⟨m, hm⟩ := k2; exact DataW.trod_lt m _ _ _ hm
  obtain ⟨m, hm⟩ := h0
  obtain ⟨v, ts, e, hs, hti⟩ := turns_of_trod hm
  have e' : Value.slice a0 len0 cap0 = v := by injection (show [Value.slice a0 len0 cap0] = [v] from e)
  subst e'
  obtain ⟨m2, hm2⟩ := h2
  obtain ⟨fv, pk, e2, hpk⟩ := picks_of_trod hm2
  have e2' : Value.slice a2 len2 cap2 = fv := by injection (show [Value.slice a2 len2 cap2] = [fv] from e2)
  subst e2'
  have b1 := bounds_i64 w1
  clear hA0 hval0
  refine (names_any _ ts x1 _ pk W hs hti ⟨b1.1, by have := b1.2; omega⟩ hpk).mono fun e W' ⟨he, bel⟩ => ?_
  subst he
  exact ⟨_, rfl, _, _, _, [], _, [], hW', trodAll_mk1 (shut_bool Tryz.underlying4 _), (trodAll_cons_mk (Below.trod Tryz.laidOut (by kernel_rfl) (of_decide_eq_true (by kernel_rfl)) k0 bel lt0) (trodAll_cons_mk (shut_int Tryz.underlying3 w1) (trodAll_cons_mk (Below.trod Tryz.laidOut (by kernel_rfl) (of_decide_eq_true (by kernel_rfl)) k2 bel lt2) trodAll_mk0))), rfl, bel.frame _, fun h => by cases h⟩

theorem diskNames_holds : Rows.DiskNamesSaid :=
  OpenClaim.holds_of_wide 4 Tryz.f4 rfl rfl rfl rfl rfl rfl rfl ⟨rfl, rfl, rfl, rfl, rfl⟩ rfl rfl rfl rfl rfl (by kernel_rfl) Tryz.func4 (by kernel_rfl)
    (of_decide_eq_true (by kernel_rfl)) (by unfold Func.isWrapper; first | (rw [if_pos (by decide +kernel)]; kernel_rfl) | (rw [if_neg (by decide +kernel)]; exact ⟨rfl, rfl⟩))
    (fun os started H enc _ => names_lifted os started H enc)

#print axioms diskNames_holds
end Go.Proofs.YtlmompdfombgeabGreat
