import Derived.Test.YtdnlfacfleemeaaK27
import Derived.Test.YtdnlfacfleemeaaK28
import Derived.ProofKit
import Derived.OpenShut
import Derived.ShutString
import Derived.ChangeOld
namespace Go.Proofs.Ytdnlfacfleemeaa.O
open Go.RowKit Go.WideShapes Go.ChangeAt Go.ChangeShapes

def Tx2R (W : World) (y : Tx2) : Prop := Rf W 8 y.S1 y.t.xs.length (y.t.xs.flatMap Ins.cells) ∧ Rf W 3 y.S2 y.t.vs.length (y.t.vs.flatMap Vd.cells) ∧ TxOk y.t

set_option maxRecDepth 100000 in
theorem txR_of_trod {H : Type} {enc : TypeId × Value → H} {W : World} {base : Nat} {held : Bool} {fuel : Nat} {cs : List Value} {x : DataW H × List MemPlace}
    (h : DataW.trod enc Try.prog W base (fun _ => true) held fuel 30 cs = some x) : ∃ y : Tx2, Tx2R W y ∧ cs = y.cells := by
  obtain ⟨xs, n, _, rfl, hl, hlen, hf⟩ := DataW.trod_struct Try.underlying30 h
  rw [Try.cells30] at hl
  match cs, hl, xs, hlen with
  | [c0, c1, c2, c3, c4, c5], _, [y0, y1, y2, y3], _ =>
    have f0 : DataW.trod enc Try.prog W base (fun _ => true) held n 3 (([c0, c1, c2, c3, c4, c5].drop 0).take (Try.prog.cellsOf 3)) = some y0 := hf 0 _ rfl
    have f1 : DataW.trod enc Try.prog W base (fun _ => true) held n 27 (([c0, c1, c2, c3, c4, c5].drop 1).take (Try.prog.cellsOf 27)) = some y1 := hf 1 _ rfl
    have f2 : DataW.trod enc Try.prog W base (fun _ => true) held n 9 (([c0, c1, c2, c3, c4, c5].drop 4).take (Try.prog.cellsOf 9)) = some y2 := hf 2 _ rfl
    have f3 : DataW.trod enc Try.prog W base (fun _ => true) held n 28 (([c0, c1, c2, c3, c4, c5].drop 5).take (Try.prog.cellsOf 28)) = some y3 := hf 3 _ rfl
    rw [Try.cells3] at f0
    rw [Try.cells27] at f1
    rw [Try.cells9] at f2
    rw [Try.cells28] at f3
    obtain ⟨a0, e0, _, _⟩ := DataW.trod_int Try.underlying3 (x := y0) (by simpa using f0)
    obtain ⟨s2, e2, _, _⟩ := DataW.trod_string Try.underlying9 (x := y2) (by simpa using f2)
    obtain ⟨S2, vs, e3, hR3, hO3⟩ := rf_of_trod Vd.cells VdOk 3 vd_cells vd_one Try.underlying28 Try.cells50 (fun _ _ _ h => vd_of_trod h) f3
    obtain ⟨zs, n1, _, _, hl1, hlen1, hf1⟩ := DataW.trod_struct Try.underlying27 f1
    match zs, hlen1 with
    | [z0, z1, z2], _ =>
      have g0 : DataW.trod enc Try.prog W base (fun _ => true) held n1 9 (([c1, c2, c3].drop 0).take (Try.prog.cellsOf 9)) = some z0 := hf1 0 _ rfl
      have g1 : DataW.trod enc Try.prog W base (fun _ => true) held n1 3 (([c1, c2, c3].drop 1).take (Try.prog.cellsOf 3)) = some z1 := hf1 1 _ rfl
      have g2 : DataW.trod enc Try.prog W base (fun _ => true) held n1 25 (([c1, c2, c3].drop 2).take (Try.prog.cellsOf 25)) = some z2 := hf1 2 _ rfl
      rw [Try.cells9] at g0
      rw [Try.cells3] at g1
      rw [Try.cells25] at g2
      obtain ⟨pn, e10, _, _⟩ := DataW.trod_string Try.underlying9 (x := z0) (by simpa using g0)
      obtain ⟨pa, e11, _, _⟩ := DataW.trod_int Try.underlying3 (x := z1) (by simpa using g1)
      obtain ⟨S1, ys, e12, hR1, hO1⟩ := rf_of_trod Ins.cells InsOk 8 ins_cells ins_one Try.underlying25 Try.cells52 (fun _ _ _ h => ins_of_trod h) g2
      simp at e0 e2 e3 e10 e11 e12
      subst e0 e2 e3 e10 e11 e12
      obtain ⟨b1, d1, rfl, _⟩ := hR1.shape
      obtain ⟨b2, d2, rfl, _⟩ := hR3.shape
      exact ⟨⟨⟨a0, pn, pa, ys, s2, vs⟩, b1, d1, b2, d2⟩, ⟨hR1, hR3, ⟨hO1, hO3⟩⟩, rfl⟩

set_option maxRecDepth 100000 in
/-- A batch as an argument. -/
theorem batR_of_trod {H : Type} {enc : TypeId × Value → H} {W : World} {base b2 : Nat} {held : Bool} {v : Value} {d : DataW H} {p : List MemPlace} (hv : Value.okWide Try.prog W .any b2 24 v)
    (h : DataW.Trod enc Try.prog W base (fun _ => true) held 24 v d p) : ∃ (f : Int) (S : Value) (ys : List Tx2), v = .agg #[.int .i64 f, S] ∧ BatR W S ys := by
  obtain ⟨⟨cs⟩, rfl, _⟩ := okWide_struct Try.underlying24 hv
  obtain ⟨fuel, hf0⟩ := h
  have hf0 : DataW.trod enc Try.prog W base (fun _ => true) held fuel 24 cs = some (d, p) := by simpa [Value.cells] using hf0
  obtain ⟨xs, n, _, hd, hl, hlen, hf⟩ := DataW.trod_struct Try.underlying24 hf0
  rw [Try.cells24] at hl
  match cs, hl, xs, hlen with
  | [c0, c1], _, [y0, y1], _ =>
    have f0 : DataW.trod enc Try.prog W base (fun _ => true) held n 3 (([c0, c1].drop 0).take (Try.prog.cellsOf 3)) = some y0 := hf 0 _ rfl
    have f1 : DataW.trod enc Try.prog W base (fun _ => true) held n 22 (([c0, c1].drop 1).take (Try.prog.cellsOf 22)) = some y1 := hf 1 _ rfl
    rw [Try.cells3] at f0
    rw [Try.cells22] at f1
    obtain ⟨a0, e0, _, _⟩ := DataW.trod_int Try.underlying3 (x := y0) (by simpa using f0)
    obtain ⟨S, ys, e1, hR, hO⟩ := rf_of_trod Tx2.cells (Tx2R W) 6 tx2_cells tx2_one Try.underlying22 Try.cells30 (fun _ _ _ h => txR_of_trod h) f1
    simp at e0 e1
    subst e0 e1
    exact ⟨a0, c1, ys, rfl, hR, hO⟩


set_option maxRecDepth 100000 in
set_option maxHeartbeats 32000000 in
theorem own_long (f : Int) (S : Value) (ys : List Tx2) (w : World) (h : BatR w S ys) (hs : ¬ Sma (ys.map Tx2.t)) :
    Calls Try.prog 5 #[.agg #[.int .i64 f, S]] w fun e w' => e = .returned (.bool true) ∧ Below w.heap.size w w' := by
  have HTS := hid h.ts
  have HL1 := hid (fun W (hb : Below w.heap.size w W) => long_any 0 f S (ys.map Tx2.t) W (HTS.out.below hb))
  unfold LgP at HL1
  rw [decide_eq_false hs] at HL1
  obtain ⟨ao, cap, rfl, -⟩ := h.1.shape
  have H0 := hid (And.intro (heap_alloc_new w (bo f (.slice ao ys.length cap))) (below1 w (bo f (.slice ao ys.length cap))))
  clear h hs
  go_enter Try.func5, Try.ntmps5
  go_wp2_with (first
    | (go_at_call 6
       refine (HL1.out _ H0.out.2).mono ?_
       rintro e w1 ⟨rfl, hb1⟩
       have H1 := hid (below_on H0.out.2 hb1)
       clear hb1))
  go_ret
  exact ⟨rfl, H1.out⟩

set_option maxRecDepth 100000 in
set_option maxHeartbeats 32000000 in
theorem own_no (f : Int) (S : Value) (ys : List Tx2) (w : World) (h : BatR w S ys) (hs : Sma (ys.map Tx2.t)) (E : Int) (hR : batE f (ys.map Tx2.t) = .error E) :
    Calls Try.prog 5 #[.agg #[.int .i64 f, S]] w fun e w' => e = .returned (.bool true) ∧ Below w.heap.size w w' := by
  have HTS := hid h.ts
  have HSA := hid hs
  have ho : ∀ t ∈ ys.map Tx2.t, TxOk t := by
    intro t ht
    obtain ⟨y, hy, rfl⟩ := List.mem_map.1 ht
    exact (h.2 y hy).2.2
  have HO := hid ho
  have hl3 : ys.length ≤ 300 := by have := hs.1; rwa [List.length_map] at this
  have HL1 := hid (fun W (hb : Below w.heap.size w W) => long_any 0 f S (ys.map Tx2.t) W (HTS.out.below hb))
  unfold LgP at HL1
  rw [decide_eq_true hs] at HL1
  have HE := hid (fun W (hb : Below w.heap.size w W) => bencode_any 0 f S (ys.map Tx2.t) W (HTS.out.below hb) (sma_L HSA.out) (by rw [List.length_map]; omega) HO.out)
  rw [hR] at HE
  unfold BEnc at HE
  dsimp only at HE
  have hE0 : E ≠ 0 := by
    intro e
    subst e
    unfold batE at hR
    split at hR
    · split at hR
      · cases hR
      · injection hR with hR; cases hR
    · rename_i hc
      injection hR with hR
      exact hc hR
  have hE1 : (E == 0) = false := by simpa using hE0
  obtain ⟨ao, cap, rfl, -⟩ := h.1.shape
  have H0 := hid (And.intro (heap_alloc_new w (bo f (.slice ao ys.length cap))) (below1 w (bo f (.slice ao ys.length cap))))
  clear h hs ho hR hE0
  go_enter Try.func5, Try.ntmps5
  go_wp2_with (first
    | (go_at_call 6
       refine (HL1.out _ H0.out.2).mono ?_
       rintro e w1 ⟨rfl, hb1⟩
       have H1 := hid (And.intro (blk_of hb1 H0.out.1 (lt_of H0.out.1)) (below_on H0.out.2 hb1))
       obtain ⟨p0, p1, -⟩ := vfacts2 H1.out.1
       clear hb1)
    | (go_at_call 8
       refine (HE.out _ H1.out.2).mono ?_
       rintro e w2 ⟨hb2, rfl⟩
       have H2 := hid (below_on H1.out.2 hb2)
       clear hb2)
    | (go_at_call 9
       refine (known_any _).mono ?_
       rintro e w5 ⟨rfl, hb5⟩
       have H5 := hid (below_on H2.out hb5)
       clear hb5))
  go_ret
  exact ⟨rfl, H5.out⟩

end Go.Proofs.Ytdnlfacfleemeaa.O

namespace Go.Proofs.Ytdnlfacfleemeaa
open Go.ChangeShapes Go.WideShapes Go.ChangeAt Go.RowKit

theorem O.own_any (f : Int) (S : Value) (ys : List Tx2) (w : World) (h : BatR w S ys) :
    Calls Try.prog 5 #[.agg #[.int .i64 f, S]] w fun e w' => e = .returned (.bool true) ∧ Below w.heap.size w w' := by
  by_cases hs : Sma (ys.map Tx2.t)
  · cases hR : batE f (ys.map Tx2.t) with
    | error E => exact O.own_no f S ys w h hs E hR
    | ok l => exact O.own_ok f S ys w h hs l hR
  · exact O.own_long f S ys w h hs

theorem Try.own : ownKnob Try.prog.godebug = none := by kernel_rfl
theorem Try.laidOut : laidOutB Try.prog = true := by kernel_rfl

set_option maxRecDepth 100000 in
theorem own_lifted (os : Os) (started : os.Started) (H : Type) (enc : TypeId × Value → H) :
    ReturnsInHanded {} Try.checked os 5 .any (Rows.batchOwnSpec.pre6 enc Try.prog Try.f5 Rows.batchOwnRow.domain false) (Rows.batchOwnSpec.post enc Try.prog Try.f5 false true false false) := by
  refine returnsInHanded_of_change (C := Try.checked) Try.own started (by kernel_rfl) Try.func5
    (ChangeSpec.witness6 (enc := enc) (C := Try.checked) false ⟨#[], #[.agg #[.int .i64 0, .slice none 0 0]], []⟩ 8 (by kernel_rfl) (by kernel_rfl) (by kernel_rfl) (by kernel_rfl)) ?_
  intro W base args ds gs before hval0 hW hcnd _
  have hval : ∀ (j : Nat) t v, Try.f5.params[j]? = some t → args[j]? = some v → Value.okWide Try.prog W .any base t v := hval0
  have hW' := hW
  obtain ⟨p, q, hA0, hV, rfl, hfz, hnd⟩ := hW
  have hA : DataW.TrodAll enc Try.prog W 0 (fun _ => true) true Try.f5.params.toList args.toList ds p := hA0
  rw [Try.params5] at hA hval
  obtain ⟨v0, vs0, d0, ds0, p0, q0, hargs, rfl, rfl, h0, r0⟩ := trodAll_cons hA
  obtain ⟨rfl, rfl, rfl⟩ := trodAll_nil r0
  obtain rfl : args = #[v0] := by cases args; simp_all
  obtain ⟨rfl, rfl⟩ := trodVars_none hV
  have k0 := h0
  have lt0 : ∀ x ∈ p0, x.block < W.heap.size := by obtain ⟨m, hm⟩ := k0; exact DataW.trod_lt m _ _ _ hm
  obtain ⟨f, S, ys, rfl, hB⟩ := O.batR_of_trod (hval 0 24 v0 rfl rfl) h0
  clear hA0 hval0
  refine (O.own_any f S ys W hB).mono fun e W' ⟨he, bel⟩ => ?_
  subst he
  exact ⟨_, rfl, _, _, _, [], _, [], hW', trodAll_mk1 (shut_bool Try.underlying4 _), (trodAll_cons_mk (Below.trod Try.laidOut (by kernel_rfl) (of_decide_eq_true (by kernel_rfl)) k0 bel lt0) trodAll_mk0), rfl, bel.frame _, fun h => by cases h⟩

theorem batchOwn_holds : Rows.BatchOwnSaid :=
  OpenClaim.holds_of_wide 5 Try.f5 rfl rfl rfl rfl rfl rfl rfl ⟨rfl, rfl, rfl, rfl, rfl⟩ rfl rfl rfl rfl rfl (by kernel_rfl) Try.func5 (by kernel_rfl)
    (of_decide_eq_true (by kernel_rfl)) (by unfold Func.isWrapper; first | (rw [if_pos (by decide +kernel)]; kernel_rfl) | (rw [if_neg (by decide +kernel)]; exact ⟨rfl, rfl⟩))
    (fun os started H enc _ => own_lifted os started H enc)

#print axioms batchOwn_holds
end Go.Proofs.Ytdnlfacfleemeaa
