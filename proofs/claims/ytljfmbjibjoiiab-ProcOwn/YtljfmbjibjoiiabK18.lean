import Derived.Test.YtljfmbjibjoiiabK17
import Derived.ProofKit
import Derived.OpenShut
import Derived.ShutString
import Derived.ChangeOld
namespace Go.Proofs.Ytljfmbjibjoiiab
open Go.ChangeShapes Go.WideShapes Go.ChangeAt Go.RowKit

set_option maxRecDepth 100000 in
set_option maxHeartbeats 1600000 in
theorem own_any (nm : ByteArray) (ar : Int) (S : Value) (xs : List Ins) (w : World) (h : Rf w 8 S xs.length (xs.flatMap Ins.cells)) (hi : ∀ x ∈ xs, InsOk x) :
    Calls Try.prog 3 #[.agg #[.string nm, .int .i64 ar, S]] w fun e w' => e = .returned (.bool true) ∧ Below w.heap.size w w' := by
  by_cases hl : (xs.length : Int) ≤ 65536
  · by_cases hE : (procChk nm ar xs).2 = 0
    · exact own_ok nm ar S xs w h hi hl hE
    · have HC := hid (fun W hW => pcheck_any nm ar S xs W hW (by omega))
      have HH := hid (code_of_rf h)
      obtain ⟨C1, C2, hR⟩ : ∃ R1 R2, procChk nm ar xs = (R1, R2) := ⟨_, _, rfl⟩
      rw [hR] at HC hE
      dsimp only at HC hE
      have he2 : (C2 == 0) = false := by simpa using hE
      have he3 : (C2 != 0) = true := by simpa using hE
      obtain ⟨ao, cap, rfl, -, -⟩ := h.shape
      have hd0 : decide ((65536 : Int) < (xs.length : Int)) = false := by simp; omega
      have H0 := hid (below1 w (po nm ar (.slice ao xs.length cap)))
      clear h hi hE hR
      go_enter Try.func3, Try.ntmps3
      go_wp2_with (first
        | (go_at_call 4
           refine (HC.out _ (HH.out.below H0.out)).mono ?_
           rintro e w1 ⟨rfl, hb1⟩
           have H1 := hid (below_on H0.out hb1)
           clear hb1)
        | (go_at_call 5
           refine (known_any _).mono ?_
           rintro e w2 ⟨rfl, hb2⟩
           have H2 := hid (below_on H1.out hb2)
           clear hb2))
      go_ret
      exact ⟨rfl, H2.out⟩
  · have hl3 : (65536 : Int) < (xs.length : Int) := by omega
    obtain ⟨ao, cap, rfl, _, _⟩ := h.shape
    have H0 := hid (below1 w (po nm ar (.slice ao xs.length cap)))
    clear h
    go_enter Try.func3, Try.ntmps3
    go_wp2
    go_ret
    exact ⟨rfl, H0.out⟩

theorem Try.own : ownKnob Try.prog.godebug = none := by kernel_rfl
theorem Try.laidOut : laidOutB Try.prog = true := by kernel_rfl

set_option maxRecDepth 100000 in
theorem own_lifted (os : Os) (started : os.Started) (H : Type) (enc : TypeId × Value → H) :
    ReturnsInHanded {} Try.checked os 3 .any (Rows.procOwnSpec.pre6 enc Try.prog Try.f3 Rows.procOwnRow.domain false) (Rows.procOwnSpec.post enc Try.prog Try.f3 false true false false) := by
  refine returnsInHanded_of_change (C := Try.checked) Try.own started (by kernel_rfl) Try.func3
    (ChangeSpec.witness6 (enc := enc) (C := Try.checked) false ⟨#[], #[.agg #[.string .empty, .int .i64 0, .slice none 0 0]], []⟩ 8 (by kernel_rfl) (by kernel_rfl) (by kernel_rfl) (by kernel_rfl)) ?_
  intro W base args ds gs before hval0 hW hcnd _
  have hval : ∀ (j : Nat) t v, Try.f3.params[j]? = some t → args[j]? = some v → Value.okWide Try.prog W .any base t v := hval0
  have hW' := hW
  obtain ⟨p, q, hA0, hV, rfl, hfz, hnd⟩ := hW
  have hA : DataW.TrodAll enc Try.prog W 0 (fun _ => true) true Try.f3.params.toList args.toList ds p := hA0
  rw [Try.params3] at hA hval
  obtain ⟨v0, vs0, d0, ds0, p0, q0, hargs, rfl, rfl, h0, r0⟩ := trodAll_cons hA
  obtain ⟨rfl, rfl, rfl⟩ := trodAll_nil r0
  obtain rfl : args = #[v0] := by cases args; simp_all
  obtain ⟨rfl, rfl⟩ := trodVars_none hV
  have k0 := h0
  have lt0 : ∀ x ∈ p0, x.block < W.heap.size := by obtain ⟨m, hm⟩ := k0; exact DataW.trod_lt m _ _ _ hm
  obtain ⟨nm, ar, S, xs, rfl, hS, hxs⟩ := proc_of_trod (hval 0 24 v0 rfl rfl) h0
  clear hA0 hval0
  refine (own_any nm ar S xs W hS hxs).mono fun e W' ⟨he, bel⟩ => ?_
  subst he
  exact ⟨_, rfl, _, _, _, [], _, [], hW', trodAll_mk1 (shut_bool Try.underlying4 _), (trodAll_cons_mk (Below.trod Try.laidOut (by kernel_rfl) (of_decide_eq_true (by kernel_rfl)) k0 bel lt0) trodAll_mk0), rfl, bel.frame _, fun h => by cases h⟩

theorem procOwn_holds : Rows.ProcOwnSaid :=
  OpenClaim.holds_of_wide 3 Try.f3 rfl rfl rfl rfl rfl rfl rfl ⟨rfl, rfl, rfl, rfl, rfl⟩ rfl rfl rfl rfl rfl (by kernel_rfl) Try.func3 (by kernel_rfl)
    (of_decide_eq_true (by kernel_rfl)) (by unfold Func.isWrapper; first | (rw [if_pos (by decide +kernel)]; kernel_rfl) | (rw [if_neg (by decide +kernel)]; exact ⟨rfl, rfl⟩))
    (fun os started H enc _ => own_lifted os started H enc)

#print axioms procOwn_holds
end Go.Proofs.Ytljfmbjibjoiiab
