import Derived.Test.YtlmompdfombgeaaGreatK41
import Derived.ProofKit
import Derived.OpenShut
import Derived.ShutString
import Derived.ChangeOld
namespace Go.Proofs.YtlmompdfombgeaaGreat
open Go.RowKit Go.MapKept

set_option maxRecDepth 100000 in
set_option maxHeartbeats 6400000 in
theorem plays_no (room most : Int) (v : Value) (xs : List Sp) (w : World) (h : Sps w v xs) (hg : ¬ (0 ≤ room ∧ room ≤ 4194304 ∧ 0 ≤ most ∧ most ≤ 512)) : Calls Tryz.prog 4 #[.int .i64 room, .int .i64 most, v] w fun x w' => x = .returned (.bool true) ∧ Below w.heap.size w w' := by
  obtain ⟨ao, cap, rfl, hc, hcm⟩ := h.1.shape
  have HS := hid h
  have HG := hid hg
  clear h hg
  go_enter Tryz.func4, Tryz.ntmps4
  go_wp2_with (first
    | (go_at_call 13
       refine (much_any (.slice ao xs.length cap) xs w HS.out).mono ?_
       rintro e w1 ⟨hb1, rr, rfl, hm⟩
       have H1 := hid (And.intro hb1 hm)
       clear hb1 hm)
    | (go_at_call 9
       refine (new_no room most w1 HG.out).mono ?_
       rintro e w' ⟨rfl, e1⟩
       rw [e1]
       clear e1 w')
    | (go_at_call 10
       refine (rnew_no room most w1 HG.out).mono ?_
       rintro e w' ⟨rfl, e1⟩
       rw [e1]
       clear e1 w')
    | (go_at_call 12
       refine (known_any w1).mono ?_
       rintro e w2 ⟨rfl, hb2⟩
       have H2 := hid hb2
       clear hb2))
  all_goals
    go_ret
    exact ⟨rfl, H1.out.1.trans (H2.out.mono H1.out.1.size)⟩

set_option maxRecDepth 100000 in
set_option maxHeartbeats 12800000 in
theorem plays_ok (room most : Int) (v : Value) (xs : List Sp) (w : World) (h : Sps w v xs) (hg : 0 ≤ room ∧ room ≤ 4194304 ∧ 0 ≤ most ∧ most ≤ 512) : Calls Tryz.prog 4 #[.int .i64 room, .int .i64 most, v] w fun x w' => x = .returned (.bool true) ∧ Below w.heap.size w w' := by
  obtain ⟨ao, cap, rfl, hc, hcm⟩ := h.1.shape
  have HS := hid h
  have HG := hid hg
  obtain ⟨g0, g1, g2, g3⟩ := hg
  clear h
  go_enter Tryz.func4, Tryz.ntmps4
  go_wp2_with (first
    | (go_at_call 13
       refine (much_any (.slice ao xs.length cap) xs w HS.out).mono ?_
       rintro e w1 ⟨hb1, rr, rfl, hm⟩
       have H1 := hid (And.intro hb1 hm)
       clear hb1 hm)
    | (go_at_call 12
       refine (known_any w1).mono ?_
       rintro e w2 ⟨rfl, hb2⟩
       have H2 := hid hb2
       clear hb2)
    | (go_at_call 9
       refine (new_ok room most w1 g0 g1 g2 g3).mono ?_
       rintro e w2 ⟨rfl, hz2, hb2⟩
       have H2 := hid (And.intro hz2 hb2)
       clear hz2 hb2)
    | (go_at_call 10
       refine (rnew_ok room most w2 g0 g1 g2 g3).mono ?_
       rintro e w3 ⟨rfl, hz3, hb3⟩
       have H3 := hid (And.intro hz3 hb3)
       clear hz3 hb3))
  · go_ret
    exact ⟨rfl, H1.out.1.trans (H2.out.mono H1.out.1.size)⟩
  rename_i hrr _ _
  obtain ⟨hlen, hsmall⟩ := H1.out.2 hrr
  have HM := hid hsmall
  have HB := hid H1.out.1
  clear hsmall H1
  subst hrr
  go_loopw [11] (fun i wr => ∃ (k : Nat) (t : Wt) (R : Rt) (D : Dq), k ≤ xs.length ∧ i = .int .i64 k ∧ Hid (PairS w1 wr w1.heap.size w2.heap.size t R D (2 * k) ∧ Below w1.heap.size w1 wr)) (fun i _ => xs.length - (intOf i).toNat)
  case atStart =>
    obtain ⟨t, R, hp, -⟩ := new_pair (w0 := w1) HG.out H2.out.1 H3.out.1 H3.out.2 (Nat.le_refl _) (Nat.le_refl _)
    exact ⟨0, t, R, newD room most, Nat.zero_le _, by go_num, hid ⟨hp, H2.out.2.trans (H3.out.2.mono H2.out.2.size)⟩⟩
  case round =>
    obtain ⟨k, t, R, D, hk, rfl, HR⟩ := hrel
    by_cases hlt : k < xs.length
    · have i1 : (k : Int) < (xs.length : Int) := by omega
      obtain ⟨b, ofs, cap', e, -, -, hcell⟩ := Rf.elem (f := scs) (fun _ => rfl) (by omega) HS.out.1 k hlt
      injection e with e1 e2 e3
      subst e1 e3
      clear e2
      have hok := HS.out.2 xs[k] (List.getElem_mem hlt)
      have hsm := HM.out xs[k] (List.getElem_mem hlt)
      have hbw : Below w.heap.size w wr := HB.out.trans (HR.out.2.mono HB.out.size)
      obtain ⟨x, hx⟩ : ∃ x, x = xs[k] := ⟨_, rfl⟩
      rw [← hx] at hok hsm hcell
      have hstep := fun (W : World) (hb : Below wr.heap.size wr W) => (st_any x ((HR.out.1.below hb).pre (hok.below HB.out) (HR.out.2.trans (hb.mono HR.out.2.size)) hsm (by omega))).mono fun e w' q => SPost.pair (HR.out.1.below hb) (HR.out.2.trans (hb.mono HR.out.2.size)) q
      obtain ⟨kind, name, tto, dv, data, nn, sv, gs, rv, gr, pn, fv, pk⟩ := x
      obtain ⟨-, -, -, -, -, hdt, -, hfs, -, hfr, -, hpk⟩ := hok
      obtain ⟨a1, q1, e1, d1, d2⟩ := hdt.shape
      obtain ⟨a2, q2, e2, d3, d4⟩ := hfs.shape
      obtain ⟨a3, q3, e3, d5, d6⟩ := hfr.shape
      obtain ⟨a4, q4, e4, d7, d8⟩ := hpk.1.shape
      dsimp only at e1 e2 e3 e4
      subst e1 e2 e3 e4
      have cc : ∀ c u, (scs ⟨kind, name, tto, .slice a1 data.length q1, data, nn, .slice a2 gs.length q2, gs, .slice a3 gr.length q3, gr, pn, .slice a4 pk.length q4, pk⟩)[c]? = some u → wr.cell? ⟨b, ofs + k * 9 + c, none⟩ = some u := fun c u hu => (hbw.cell (World.block_lt_of_cell? _ _ (hcell c u hu))).trans (hcell c u hu)
      have c0 : wr.cell? ⟨b, ofs + k * 9, none⟩ = _ := cc 0 _ rfl
      have c1 := cc 1 _ rfl
      have c2 := cc 2 _ rfl
      have c3 := cc 3 _ rfl
      have c4 := cc 4 _ rfl
      have c5 := cc 5 _ rfl
      have c6 := cc 6 _ rfl
      have c7 := cc 7 _ rfl
      have c8 := cc 8 _ rfl
      dsimp only at hstep
      have HST := hid hstep
      clear hcell cc hdt hfs hfr hpk hstep hx hsm hbw d1 d2 d3 d4 d5 d6 d7 d8
      go_wp2_with (first
        | (go_at_call 14
           refine (HST.out _ (by first | exact Below.refl _ _ | exact (Below.refl _ _).drew)).mono ?_
           rintro e w4 ⟨rfl, t', R', D', hp4, -, -, hb4⟩
           have H4 := hid (And.intro hp4 hb4)
           clear hp4 hb4)
        | (go_at_call 11
           refine (alike_any H4.out.1.pr H4.out.1.wd (by omega) H4.out.1.tk).mono ?_
           rintro e w5 ⟨rfl, hb5⟩
           have H5 := hid hb5
           clear hb5))
      go_roundw
      case rel => exact ⟨k + 1, t', R', D', by omega, by go_num, hid ⟨(H4.out.1.below H5.out).mono (by omega), H4.out.2.trans (H5.out.mono H4.out.2.size)⟩⟩
      case measure => simp [intOf]; omega
    · have i1 : ¬ (k : Int) < (xs.length : Int) := by omega
      go_wp2_with (
        go_at_call 12
        refine (known_any wr).mono ?_
        rintro e w4 ⟨rfl, hb4⟩
        have H4 := hid hb4
        clear hb4)
      go_ret
      have hbw : Below w.heap.size w wr := HB.out.trans (HR.out.2.mono HB.out.size)
      exact ⟨rfl, hbw.trans (H4.out.mono hbw.size)⟩

theorem plays_any (room most : Int) (v : Value) (xs : List Sp) (w : World) (h : Sps w v xs) : Calls Tryz.prog 4 #[.int .i64 room, .int .i64 most, v] w fun x w' => x = .returned (.bool true) ∧ Below w.heap.size w w' := by
  by_cases hg : 0 ≤ room ∧ room ≤ 4194304 ∧ 0 ≤ most ∧ most ≤ 512
  · exact plays_ok room most v xs w h hg
  · exact plays_no room most v xs w h hg

end Go.Proofs.YtlmompdfombgeaaGreat

namespace Go.Proofs.YtlmompdfombgeaaGreat
open Go.ChangeShapes Go.WideShapes Go.ChangeAt Go.RowKit

theorem Tryz.own : ownKnob Tryz.prog.godebug = none := by kernel_rfl
theorem Tryz.laidOut : laidOutB Tryz.prog = true := by kernel_rfl

set_option maxRecDepth 100000 in
theorem plays_lifted (os : Os) (started : os.Started) (H : Type) (enc : TypeId × Value → H) :
    ReturnsInHanded {} Tryz.checked os 4 .any (Rows.diskPlaysSpec.pre6 enc Tryz.prog Tryz.f4 Rows.diskPlaysRow.domain false) (Rows.diskPlaysSpec.post enc Tryz.prog Tryz.f4 false true false false) := by
  refine returnsInHanded_of_change (C := Tryz.checked) Tryz.own started (by kernel_rfl) Tryz.func4
    (ChangeSpec.witness6 (enc := enc) (C := Tryz.checked) false ⟨#[], #[.int .i64 0, .int .i64 0, .slice none 0 0], []⟩ 8 (by kernel_rfl) (by kernel_rfl) (by kernel_rfl) (by kernel_rfl)) ?_
  intro W base args ds gs before hval0 hW hcnd _
  have hval : ∀ (j : Nat) t v, Tryz.f4.params[j]? = some t → args[j]? = some v → Value.okWide Tryz.prog W .any base t v := hval0
  have hW' := hW
  obtain ⟨p, q, hA0, hV, rfl, hfz, hnd⟩ := hW
  have hA : DataW.TrodAll enc Tryz.prog W 0 (fun _ => true) true Tryz.f4.params.toList args.toList ds p := hA0
  rw [Tryz.params4] at hA hval
  obtain ⟨v0, vs0, d0, ds0, p0, q0, hargs, rfl, rfl, h0, r0⟩ := trodAll_cons hA
  obtain ⟨v1, vs1, d1, ds1, p1, q1, rfl, rfl, rfl, h1, r1⟩ := trodAll_cons r0
  obtain ⟨v2, vs2, d2, ds2, p2, q2, rfl, rfl, rfl, h2, r2⟩ := trodAll_cons r1
  obtain ⟨rfl, rfl, rfl⟩ := trodAll_nil r2
  obtain rfl : args = #[v0, v1, v2] := by cases args; simp_all
  obtain ⟨rfl, rfl⟩ := trodVars_none hV
  obtain ⟨x0, rfl, rfl, rfl, w0⟩ := open_int Tryz.underlying3 (hval 0 3 v0 rfl rfl) h0
  obtain ⟨x1, rfl, rfl, rfl, w1⟩ := open_int Tryz.underlying3 (hval 1 3 v1 rfl rfl) h1
  obtain ⟨a0, len0, cap0, rfl⟩ := okWide_slice Tryz.underlying32 (hval 2 32 v2 rfl rfl)
  have k2 := h2
  have lt2 : ∀ x ∈ p2, x.block < W.heap.size := by obtain ⟨m, hm⟩ := k2; exact DataW.trod_lt m _ _ _ hm
  obtain ⟨m, hm⟩ := h2
  obtain ⟨v, ys, e, hs⟩ := steps_of_trod hm
  have e' : Value.slice a0 len0 cap0 = v := by injection (show [Value.slice a0 len0 cap0] = [v] from e)
  subst e'
  clear hA0 hval0
  refine (plays_any x0 x1 _ ys W hs).mono fun e W' ⟨he, bel⟩ => ?_
  subst he
  exact ⟨_, rfl, _, _, _, [], _, [], hW', trodAll_mk1 (shut_bool Tryz.underlying4 _), (trodAll_cons_mk (shut_int Tryz.underlying3 w0) (trodAll_cons_mk (shut_int Tryz.underlying3 w1) (trodAll_cons_mk (Below.trod Tryz.laidOut (by kernel_rfl) (of_decide_eq_true (by kernel_rfl)) k2 bel lt2) trodAll_mk0))), rfl, bel.frame _, fun h => by cases h⟩

theorem diskPlays_holds : Rows.DiskPlaysSaid :=
  OpenClaim.holds_of_wide 4 Tryz.f4 rfl rfl rfl rfl rfl rfl rfl ⟨rfl, rfl, rfl, rfl, rfl⟩ rfl rfl rfl rfl rfl (by kernel_rfl) Tryz.func4 (by kernel_rfl)
    (of_decide_eq_true (by kernel_rfl)) (by unfold Func.isWrapper; first | (rw [if_pos (by decide +kernel)]; kernel_rfl) | (rw [if_neg (by decide +kernel)]; exact ⟨rfl, rfl⟩))
    (fun os started H enc _ => plays_lifted os started H enc)

#print axioms diskPlays_holds
end Go.Proofs.YtlmompdfombgeaaGreat
