import Derived.Test.YtkalppcekmlgbaaFc
namespace Go.Proofs.Ytkalppcekmlgbaa
open Go.RowKit

/-- What follows leaves. -/
def FwP (F : Fk) : Ending → World → Prop := fun e w' => e = .returned (.bool true) ∧ ∃ t vl l, St F.B w' F.o t F.b vl l ∧ Kept (ft F.o F.t0 F.b F.vl0) F.wE w' ∧ (∀ k, ft F.o t F.b vl k → ft F.o F.t0 F.b F.vl0 k ∨ F.wE.heap.size ≤ k) ∧ l.length ≤ F.l0.length + min F.xs.length 300 ∧ (F.xs = [] → t = F.t0 ∧ vl = F.vl0 ∧ l = F.l0 ∧ Below F.S F.wE w')

/-- The ten boxes are laid. -/
def tenW (F : Fk) : World := ((((((((((F.wE.alloc (.cells #[.pointer F.o] 23)).alloc (.cells #[.pointer (some ⟨F.b, 0, none⟩)] 29)).alloc (.cells #[.string F.frm] 9)).alloc (.cells #[.string F.to] 9)).alloc (.cells #[.int .i64 F.stop] 3)).alloc (.cells #[F.body] 22)).alloc (.cells #[.bool true] 4)).alloc (.cells #[.bool false] 4)).alloc (.cells #[.int .i64 0] 3)).alloc (.cells #[.string ⟨#[]⟩] 9))

theorem at_new {w W : World} {i : Nat} (o : Obj) (h : w.heap.size = W.heap.size + i) : (w.alloc o).heap[W.heap.size + i]? = some o := by
  rw [← h]; exact hp_new w o

theorem tenFx (F : Fk) (ok : F.ok) : Fx (tenW F) F.S F.o F.b F.frm F.to F.stop F.body true false (0 : Nat) ⟨#[]⟩ := by
  have e := ok.hS
  unfold tenW
  rw [e]
  refine ⟨?_, ?_, ?_, ?_, ?_, ?_, ?_, ?_, ?_, ?_⟩
  · exact hp_alloc (hp_alloc (hp_alloc (hp_alloc (hp_alloc (hp_alloc (hp_alloc (hp_alloc (hp_alloc (at_new (i := 0) _ (by simp)) _) _) _) _) _) _) _) _) _
  · exact hp_alloc (hp_alloc (hp_alloc (hp_alloc (hp_alloc (hp_alloc (hp_alloc (hp_alloc (at_new _ (by simp)) _) _) _) _) _) _) _) _
  · exact hp_alloc (hp_alloc (hp_alloc (hp_alloc (hp_alloc (hp_alloc (hp_alloc (at_new _ (by simp)) _) _) _) _) _) _) _
  · exact hp_alloc (hp_alloc (hp_alloc (hp_alloc (hp_alloc (hp_alloc (at_new _ (by simp)) _) _) _) _) _) _
  · exact hp_alloc (hp_alloc (hp_alloc (hp_alloc (hp_alloc (at_new _ (by simp)) _) _) _) _) _
  · exact hp_alloc (hp_alloc (hp_alloc (hp_alloc (at_new _ (by simp)) _) _) _) _
  · exact hp_alloc (hp_alloc (hp_alloc (at_new _ (by simp)) _) _) _
  · exact hp_alloc (hp_alloc (at_new _ (by simp)) _) _
  · exact hp_alloc (at_new _ (by simp)) _
  · exact at_new _ (by simp)

theorem tenBelow (F : Fk) : Below F.wE.heap.size F.wE (tenW F) := by
  unfold tenW
  exact (((((((((below_new _ _).alloc (by simp) _).alloc (by simp; omega) _).alloc (by simp; omega) _).alloc (by simp; omega) _).alloc (by simp; omega) _).alloc (by simp; omega) _).alloc (by simp; omega) _).alloc (by simp; omega) _).alloc (by simp; omega) _

theorem tenFI (F : Fk) (ok : F.ok) : FI F (600 + ahead false F.frm F.l0) false F.frm F.t0 (tenW F) 0 F.vl0 F.l0 ⟨#[]⟩ := by
  have hb := tenBelow F
  have hs : (tenW F).heap.size = F.wE.heap.size + 10 := by unfold tenW; simp
  have e := ok.hS
  have ha : ahead false F.frm F.l0 ≤ F.l0.length := List.countP_le_length
  have := ok.hln
  exact ⟨tenFx F ok, rfl, ⟨fun h => by omega, fun _ => rfl⟩, ok.st0.below hb, ⟨hp_below ok.it0.t hb (by have := ok.hg1; omega), hp_below ok.it0.f hb (by have := ok.hg2; omega), hp_below ok.it0.e hb (by have := ok.hg3; omega)⟩, ok.rf0.below hb, by omega, by omega, by omega, by omega, (Kept.ofBelow hb).mono (fun _ _ h => h.elim), fun _ hk => .inl hk, fun _ => ⟨rfl, rfl, rfl, e ▸ hb⟩⟩

theorem FI.fin {F : Fk} {m : Nat} {st : Bool} {last : ByteArray} {t : Tr} {w : World} {n : Nat} {vl : Value} {l : List Pr} {ls : ByteArray} (h : FI F m st last t w n vl l ls) : FwP F (.returned (.bool true)) w := by
  have := h.ln
  exact ⟨rfl, t, vl, l, h.ss, h.kp, h.nw, by omega, h.e0⟩

set_option maxRecDepth 100000 in
set_option maxHeartbeats 8000000 in
theorem follows_any (F : Fk) (ok : F.ok) : Calls Try.prog 13 #[.pointer F.o, .pointer (some ⟨F.b, 0, none⟩), itV F.g1 F.g2 F.g3, .string F.frm, .string F.to, .int .i64 F.stop, F.body] F.wE (FwP F) := by
  have IT := hid (iter29 (F.S + 1) (F.S + 2) (F.S + 8) (F.S + 9) (F.S + 7) (F.S + 3) (F.S + 6) (F.S + 5) F.S (F.S + 4) (fol_body F ok) _ F.t0 (tenW F) ⟨0, F.vl0, F.l0, ⟨#[]⟩, tenFI F ok⟩)
  rw [ok.hS] at IT
  have hmf : ∀ (fn : Fn) (first cap : Array Value) (w : World), (Instr.makeFunc fn first cap).run Try.prog w = .ok (.func fn first cap) w := fun _ _ _ _ => rfl
  have OK := hid ok
  obtain ⟨aob, capb, hbody, -, -⟩ := ok.rf0.shape
  clear ok
  obtain ⟨B, S, b, wE, o, t0, vl0, l0, frm, to, g1, g2, g3, stop, body, xs⟩ := F
  simp only at hbody IT ⊢
  subst hbody
  generalize hP : FwP ⟨B, S, b, wE, o, t0, vl0, l0, frm, to, g1, g2, g3, stop, Value.slice aob xs.length capb, xs⟩ = PP
  have HP := hid hP
  have hS : S = wE.heap.size := OK.out.hS
  subst hS
  clear hP
  go_enter Try.func13, Try.ntmps13
  go_upto_region 6 with (
    go_at_call 27
    refine IT.out.mono ?_
    rintro e w1 ⟨rfl, hend⟩
    have HE := hid hend
    clear hend)
  rcases HE.out with ⟨m, st, last, t, ⟨n, vl, l, ls, fi⟩, hen⟩ | ⟨n, t, vl, l, ls, fx, e1, h0, hst, hkp, hnw, hlen, he0⟩
  · have c6 := cells1 fi.fx.bo
    have c8 := cells1 fi.fx.bn
    have c4 := cells1 fi.fx.bs
    have c1 := cells1 fi.fx.bb
    have c2 := cells1 fi.fx.bf
    have c9 := cells1 fi.fx.bl
    have c3 := cells1 fi.fx.be
    have hl : l.length ≤ 90000 := by have := fi.ln; have := OK.out.hln; simp only at *; omega
    obtain ⟨a1, q1, e1⟩ := bleastV_form frm l
    obtain ⟨a2, q2, e2⟩ := bnextV_form ls l
    have L1 := hid (show Calls Try.prog 16 #[.pointer (some ⟨b, 0, none⟩), .string frm] w1 fun x w' => x = .returned (.tuple #[.string a1, .bool q1]) ∧ w' = w1 from e1 ▸ bleast_any B b vl l frm w1 fi.ss.bk (by omega))
    have X1 := hid (show Calls Try.prog 17 #[.pointer (some ⟨b, 0, none⟩), .string ls] w1 fun x w' => x = .returned (.tuple #[.string a2, .bool q2]) ∧ w' = w1 from e2 ▸ bnext_any B b vl l ls w1 fi.ss.bk (by omega))
    have FIN := hid (show PP (.returned (.bool true)) w1 from HP.out ▸ fi.fin)
    have hbk := nx_book fi.ss.mt fi.ss.to.rs st last
    have HQ := hid (show ∀ a q, (if 0 < n then bnextV ls l else bleastV frm l) = .tuple #[.string a, .bool q] → q = false ∨ (q = true ∧ to ≠ ⟨#[]⟩ ∧ kl to a = true) from by
      intro a q haq
      have e3 : (if st then bnextV last l else bleastV last l) = .tuple #[.string a, .bool q] := by
        by_cases h0 : 0 < n
        · rw [if_pos h0, fi.s2.1 h0] at haq
          rw [fi.s1, if_pos (by simpa using h0)]
          exact haq
        · rw [if_neg h0] at haq
          rw [fi.s1, if_neg (by simpa using h0), fi.s2.2 (by omega)]
          exact haq
      rw [e3] at hbk
      cases hq : nx st last t.toL with
      | none =>
        rw [hq] at hbk
        simp at hbk
        exact .inl hbk.2
      | some c =>
        obtain ⟨bb, k, v⟩ := c
        rw [hq] at hbk
        simp at hbk
        obtain ⟨x1, x2⟩ := hen bb k v hq
        exact .inr ⟨hbk.2, x1, by rw [← hbk.1]; exact x2⟩)
    clear hbk hen fi HE hmf IT
    by_cases hst : (n : Int) = stop ∧ 0 < stop
    · have b1 : ((n : Int) == stop) = true := by rw [beq_iff_eq]; exact hst.1
      have b2 := hst.2
      clear hst e1 e2
      go_wp2
      exact FIN.out
    · by_cases h0 : 0 < n
      · have h0' : (0 : Int) < n := by omega
        rw [if_pos h0] at HQ
        have HQ2 := HQ.out a2 q2 e2
        by_cases hs1 : (n : Int) = stop
        · have b2 : ¬ 0 < stop := fun h => hst ⟨hs1, h⟩
          have b1 : ((n : Int) == stop) = true := by rw [beq_iff_eq]; exact hs1
          rcases HQ2 with hq | ⟨hq, ht, hk⟩
          · subst hq
            clear hs1
            clear e1 e2 HQ hst
            go_wp2_with (first
              | (go_at_call 16; refine L1.out.mono ?_; rintro e w2 ⟨rfl, e3⟩; rw [e3]; clear e3 w2)
              | (go_at_call 17; refine X1.out.mono ?_; rintro e w2 ⟨rfl, e3⟩; rw [e3]; clear e3 w2))
            all_goals exact FIN.out
          · subst hq
            have d0 := emp_ne ht
            have d1 : (!Op.bytesLess a2.toList to.toList && !(a2.toList == to.toList)) = true := by rw [gtr_eq]; exact hk
            clear hs1
            clear e1 e2 HQ hst ht hk
            go_wp2_with (first
              | (go_at_call 16; refine L1.out.mono ?_; rintro e w2 ⟨rfl, e3⟩; rw [e3]; clear e3 w2)
              | (go_at_call 17; refine X1.out.mono ?_; rintro e w2 ⟨rfl, e3⟩; rw [e3]; clear e3 w2))
            all_goals exact FIN.out
        · have b1 : ((n : Int) == stop) = false := by rw [beq_eq_false_iff_ne]; exact hs1
          rcases HQ2 with hq | ⟨hq, ht, hk⟩
          · subst hq
            clear hs1
            clear e1 e2 HQ hst
            go_wp2_with (first
              | (go_at_call 16; refine L1.out.mono ?_; rintro e w2 ⟨rfl, e3⟩; rw [e3]; clear e3 w2)
              | (go_at_call 17; refine X1.out.mono ?_; rintro e w2 ⟨rfl, e3⟩; rw [e3]; clear e3 w2))
            all_goals exact FIN.out
          · subst hq
            have d0 := emp_ne ht
            have d1 : (!Op.bytesLess a2.toList to.toList && !(a2.toList == to.toList)) = true := by rw [gtr_eq]; exact hk
            clear hs1
            clear e1 e2 HQ hst ht hk
            go_wp2_with (first
              | (go_at_call 16; refine L1.out.mono ?_; rintro e w2 ⟨rfl, e3⟩; rw [e3]; clear e3 w2)
              | (go_at_call 17; refine X1.out.mono ?_; rintro e w2 ⟨rfl, e3⟩; rw [e3]; clear e3 w2))
            all_goals exact FIN.out
      · have h0' : ¬ (0 : Int) < n := by omega
        rw [if_neg h0] at HQ
        have HQ2 := HQ.out a1 q1 e1
        by_cases hs1 : (n : Int) = stop
        · have b2 : ¬ 0 < stop := fun h => hst ⟨hs1, h⟩
          have b1 : ((n : Int) == stop) = true := by rw [beq_iff_eq]; exact hs1
          rcases HQ2 with hq | ⟨hq, ht, hk⟩
          · subst hq
            clear hs1
            clear e1 e2 HQ hst
            go_wp2_with (first
              | (go_at_call 16; refine L1.out.mono ?_; rintro e w2 ⟨rfl, e3⟩; rw [e3]; clear e3 w2))
            all_goals exact FIN.out
          · subst hq
            have d0 := emp_ne ht
            have d1 : (!Op.bytesLess a1.toList to.toList && !(a1.toList == to.toList)) = true := by rw [gtr_eq]; exact hk
            clear hs1
            clear e1 e2 HQ hst ht hk
            go_wp2_with (first
              | (go_at_call 16; refine L1.out.mono ?_; rintro e w2 ⟨rfl, e3⟩; rw [e3]; clear e3 w2))
            all_goals exact FIN.out
        · have b1 : ((n : Int) == stop) = false := by rw [beq_eq_false_iff_ne]; exact hs1
          rcases HQ2 with hq | ⟨hq, ht, hk⟩
          · subst hq
            clear hs1
            clear e1 e2 HQ hst
            go_wp2_with (first
              | (go_at_call 16; refine L1.out.mono ?_; rintro e w2 ⟨rfl, e3⟩; rw [e3]; clear e3 w2))
            all_goals exact FIN.out
          · subst hq
            have d0 := emp_ne ht
            have d1 : (!Op.bytesLess a1.toList to.toList && !(a1.toList == to.toList)) = true := by rw [gtr_eq]; exact hk
            clear hs1
            clear e1 e2 HQ hst ht hk
            go_wp2_with (first
              | (go_at_call 16; refine L1.out.mono ?_; rintro e w2 ⟨rfl, e3⟩; rw [e3]; clear e3 w2))
            all_goals exact FIN.out
  · have c6 := cells1 fx.bo
    have c8 := cells1 fx.bn
    have c4 := cells1 fx.bs
    have b1 : ((n : Int) == stop) = true := by rw [beq_iff_eq]; exact e1
    have b2 : 0 < stop := by have e2 : (n : Int) = stop := e1; omega
    have FIN := hid (show PP (.returned (.bool true)) w1 from HP.out ▸ ⟨rfl, t, vl, l, hst, hkp, hnw, hlen, he0⟩)
    clear fx e1 h0 hst hkp hnw hlen he0 HE hmf IT
    go_wp2
    exact FIN.out

end Go.Proofs.Ytkalppcekmlgbaa
