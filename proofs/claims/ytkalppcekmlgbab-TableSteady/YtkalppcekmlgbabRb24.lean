import Derived.Test.YtkalppcekmlgbabRb
namespace Go.Proofs.Ytkalppcekmlgbab
open Go.RowKit

set_option maxRecDepth 100000 in
set_option maxHeartbeats 8000000 in
theorem iter24 (c1 c2 c3 c4 c5 c6 c7 : Nat) {N : Nat} {o : Option Addr} {frm to : ByteArray} {g1 g2 g3 : Nat} {I : Nat → Bool → ByteArray → Tr → World → Prop} {J : World → Prop} (H : Body N o frm to g1 g2 g3 24 [.pointer (some ⟨c1, 0, none⟩), .pointer (some ⟨c2, 0, none⟩), .pointer (some ⟨c3, 0, none⟩), .pointer (some ⟨c4, 0, none⟩), .pointer (some ⟨c5, 0, none⟩), .pointer (some ⟨c6, 0, none⟩), .pointer (some ⟨c7, 0, none⟩)] I J) (m : Nat) (t : Tr) (w : World) (h : I m false frm t w) :
    Calls Try.prog 40 #[.func (.func 24) #[] #[.pointer (some ⟨c1, 0, none⟩), .pointer (some ⟨c2, 0, none⟩), .pointer (some ⟨c3, 0, none⟩), .pointer (some ⟨c4, 0, none⟩), .pointer (some ⟨c5, 0, none⟩), .pointer (some ⟨c6, 0, none⟩), .pointer (some ⟨c7, 0, none⟩)], .pointer (some ⟨g1, 0, none⟩), .pointer (some ⟨g2, 0, none⟩), .pointer (some ⟨g3, 0, none⟩)] w (IterP to I J) := by
  have hi := H.it h
  have c1 := cells1 hi.t
  have c2 := cells1 hi.f
  have S1 := hid (show Calls Try.prog 41 #[.pointer o, .string frm] w fun x w' => ∃ gf gl gt, x = .returned (.func (.func 57) #[] #[.pointer (some ⟨gf, 0, none⟩), .pointer (some ⟨gl, 0, none⟩), .pointer (some ⟨gt, 0, none⟩)]) ∧ Hid (SB w' gf gl gt o false frm ∧ I m false frm t w' ∧ N ≤ gf ∧ N ≤ gl ∧ N ≤ gt) from by
    refine (steps_any o frm w).mono ?_
    rintro x w' ⟨gf, gl, gt, rfl, hs, hb, q1, q2, q3⟩
    have := H.nn h
    exact ⟨gf, gl, gt, rfl, hid ⟨hs, keep_below H h hb, by omega, by omega, by omega⟩⟩)
  have HH := hid H
  generalize hP : IterP to I J = P
  have HP := hid hP
  clear hP h hi H
  go_enter Try.func40, Try.ntmps40
  go_wp2_with (first
    | (go_at_call 41
       refine S1.out.mono ?_
       rintro e w1 ⟨gf, gl, gt, rfl, N1⟩
       have S2 := hid (step_on HH.out N1.out.2.1 N1.out.1 N1.out.2.2.1 N1.out.2.2.2.1)
       clear S1)
    | (go_at_call 57
       refine S2.out.mono ?_
       rintro e w2 ⟨rfl, hd⟩
       have N2 := hid hd
       clear hd S2))
  go_loopw [6] (fun i wr => ∃ m, Hid (RR o gf gl gt I i wr m)) (fun i wr => Classical.epsilon (fun m => RR o gf gl gt I i wr m ∧ ∀ j, RR o gf gl gt I i wr j → m ≤ j))
  case atStart => exact ⟨m, hid ⟨_, _, _, N2.out⟩⟩
  case round =>
    obtain ⟨m0, h0⟩ := hrel
    have hsp := eps_spec ⟨m0, h0.out⟩
    generalize hmm : Classical.epsilon (fun m => RR o gf gl gt I _ wr m ∧ ∀ j, RR o gf gl gt I _ wr j → m ≤ j) = mm at hsp ⊢
    have HMM := hid hmm
    obtain ⟨⟨st, last, t1, hd0⟩, -⟩ := hsp
    have hd := hid hd0
    have e0 := hd0.n_
    clear hd0 h0 N2 hmm
    cases hq : nx st last t1.toL with
    | none =>
      rw [hq] at e0
      have e1 : _ = Value.pointer none := e0
      subst e1
      have HQ := hid hq
      clear hq e0
      go_wp2_with fail
      go_quiet (fail)
      go_wp2
      go_end0
      rw [← HP.out]
      refine ⟨rfl, .inl ⟨mm, st, last, t1, keep_below HH.out hd.out.i_ (blw_drewN (Below.refl _ _)), ?_⟩⟩
      intro b k v e
      rw [HQ.out] at e
      cases e
    | some c =>
      obtain ⟨b, k, v⟩ := c
      rw [hq] at e0
      have e1 : _ = Value.pointer (some ⟨b, 0, none⟩) := e0
      subst e1
      have HQ := hid hq
      obtain ⟨p', q', h', nd⟩ := (HH.out.tb hd.out.i_).1.at_.mem b k v (nx_mem hq)
      have d0 := (cells5 nd).1
      have d1 := (cells5 nd).2.1
      have hbl := hp_lt nd
      have c3 := cells1 (HH.out.it hd.out.i_).e
      have CL := hid (fun W => clone_any k W ((HH.out.tb hd.out.i_).2 _ (nx_mem hq)))
      have SBB := hid (show SB wr gf gl gt o true k from by have h5 := hd.out.sb; rw [hq] at h5; exact h5)
      clear hq e0 nd
      by_cases ht : to = ⟨#[]⟩
      · have b0 := emp_eq ht
        have HT := hid ht
        clear ht
        go_wp2_with fail
        go_quiet (fail)
        have BB := hid (show Below wr.heap.size wr (wr.drewN nq) from blw_drewN (Below.refl _ _))
        generalize wr.drewN nq = W3 at BB ⊢
        have d0' := (BB.out.cell (p := ⟨b, 0, none⟩) hbl).trans d0
        have d1' := (BB.out.cell (p := ⟨b, 1, none⟩) hbl).trans d1
        go_wp2_with fail
        go_region_with (first
          | (go_at_call 28
             refine (CL.out _).mono ?_
             rintro e w4 ⟨rfl, hb⟩
             have hb4 := below_on BB.out (undrew hb)
             have f0 := (hb4.cell (p := ⟨b, 0, none⟩) hbl).trans d0
             have f1 := (hb4.cell (p := ⟨b, 1, none⟩) hbl).trans d1
             have B4 := hid hb4
             clear hb hb4)
          | (go_at_call 24
             refine (HH.out.run (keep_below HH.out hd.out.i_ B4.out) HQ.out (.inl HT.out)).mono ?_
             rintro e w5 ⟨r, rfl, hbx, ht, hf⟩
             have N5 := hid (And.intro hbx (And.intro ht hf))
             clear hbx ht hf))
        all_goals
          cases r
          · have J5 := hid (N5.out.2.2 rfl)
            clear N5
            go_wp2
            go_end0
            rw [← HP.out]
            exact ⟨rfl, .inr J5.out⟩
          · obtain ⟨m', t', hlt, hI⟩ := N5.out.2.1 rfl
            have S5 := hid (step_on HH.out hI (N5.out.1.sb (sbBelow SBB.out B4.out) N1.out.2.2.1 N1.out.2.2.2.1 N1.out.2.2.2.2) N1.out.2.2.1 N1.out.2.2.2.1)
            have HLT := hid hlt
            clear hI hlt
            go_wp2_with (
              go_at_call 57
              refine S5.out.mono ?_
              rintro e w6 ⟨rfl, hd6⟩
              have N6 := hid hd6
              clear hd6 S5)
            go_roundw
            case rel => exact ⟨m', hid ⟨_, _, _, N6.out⟩⟩
            case measure =>
              exact Nat.lt_of_le_of_lt ((eps_spec (R := RR o gf gl gt I _ w6) ⟨m', _, _, _, N6.out⟩).2 m' ⟨_, _, _, N6.out⟩) (Nat.lt_of_lt_of_eq HLT.out HMM.out.symm)
      · have b0 := emp_ne ht
        have b1 := leq_eq k to
        cases hk : kl to k
        · rw [hk] at b1
          have HT := hid hk
          have b1' : (Op.bytesLess k.toList to.toList || (k.toList == to.toList)) = true := b1
          clear ht hk b1
          go_wp2_with fail
          go_quiet (fail)
          have BB := hid (show Below wr.heap.size wr (wr.drewN nq) from blw_drewN (Below.refl _ _))
          generalize wr.drewN nq = W3 at BB ⊢
          have d0' := (BB.out.cell (p := ⟨b, 0, none⟩) hbl).trans d0
          have d1' := (BB.out.cell (p := ⟨b, 1, none⟩) hbl).trans d1
          go_wp2_with fail
          go_region_with (first
            | (go_at_call 28
               refine (CL.out _).mono ?_
               rintro e w4 ⟨rfl, hb⟩
               have hb4 := below_on BB.out (undrew hb)
               have f0 := (hb4.cell (p := ⟨b, 0, none⟩) hbl).trans d0
               have f1 := (hb4.cell (p := ⟨b, 1, none⟩) hbl).trans d1
               have B4 := hid hb4
               clear hb hb4)
            | (go_at_call 24
               refine (HH.out.run (keep_below HH.out hd.out.i_ B4.out) HQ.out (.inr HT.out)).mono ?_
               rintro e w5 ⟨r, rfl, hbx, ht, hf⟩
               have N5 := hid (And.intro hbx (And.intro ht hf))
               clear hbx ht hf))
          all_goals
            cases r
            · have J5 := hid (N5.out.2.2 rfl)
              clear N5
              go_wp2
              go_end0
              rw [← HP.out]
              exact ⟨rfl, .inr J5.out⟩
            · obtain ⟨m', t', hlt, hI⟩ := N5.out.2.1 rfl
              have S5 := hid (step_on HH.out hI (N5.out.1.sb (sbBelow SBB.out B4.out) N1.out.2.2.1 N1.out.2.2.2.1 N1.out.2.2.2.2) N1.out.2.2.1 N1.out.2.2.2.1)
              have HLT := hid hlt
              clear hI hlt
              go_wp2_with (
                go_at_call 57
                refine S5.out.mono ?_
                rintro e w6 ⟨rfl, hd6⟩
                have N6 := hid hd6
                clear hd6 S5)
              go_roundw
              case rel => exact ⟨m', hid ⟨_, _, _, N6.out⟩⟩
              case measure =>
                exact Nat.lt_of_le_of_lt ((eps_spec (R := RR o gf gl gt I _ w6) ⟨m', _, _, _, N6.out⟩).2 m' ⟨_, _, _, N6.out⟩) (Nat.lt_of_lt_of_eq HLT.out HMM.out.symm)
        · rw [hk] at b1
          have HT := hid (And.intro ht hk)
          have b1' : (Op.bytesLess k.toList to.toList || (k.toList == to.toList)) = false := b1
          clear ht hk b1
          go_wp2_with fail
          go_quiet (fail)
          go_wp2
          go_end0
          rw [← HP.out]
          refine ⟨rfl, .inl ⟨mm, st, last, t1, keep_below HH.out hd.out.i_ (blw_drewN (Below.refl _ _)), ?_⟩⟩
          intro b' k' v' e
          rw [HQ.out] at e
          injection e with e
          injection e with e1 e2
          injection e2 with e2 e3
          subst e2
          exact HT.out

end Go.Proofs.Ytkalppcekmlgbab
