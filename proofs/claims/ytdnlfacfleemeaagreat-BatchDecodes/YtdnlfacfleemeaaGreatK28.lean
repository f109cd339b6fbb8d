import Derived.Test.YtdnlfacfleemeaaGreatK27
namespace Go.Proofs.YtdnlfacfleemeaaGreat
open Go.RowKit

theorem ri_below {W : World} (w : World) {o1 o2 : Obj} (hb : Below ((w.alloc o1).alloc o2).heap.size ((w.alloc o1).alloc o2) W) :
    W.heap[w.heap.size]? = some o1 ∧ W.heap[w.heap.size + 1]? = some o2 ∧ Below w.heap.size w W :=
  ⟨blk_of hb (two1 w _ _) (by simp; omega), blk_of hb (two2 w _ _) (by simp), (below2 w o1 o2).trans (hb.mono (below2 w o1 o2).size)⟩

theorem toList_ne1 {s : ByteArray} (h : ¬ s = ⟨#[63]⟩) : (s.toList == ([63] : List UInt8)) = false := by
  rw [beq_eq_false_iff_ne]
  intro e
  apply h
  have e2 : s.toList = (⟨#[63]⟩ : ByteArray).toList := by rw [e, Lib.toList_data]
  exact toList_inj e2

theorem toList_ne {s : ByteArray} (h : ¬ s = emp) : (s.toList == ([] : List UInt8)) = false := by
  rw [beq_eq_false_iff_ne]
  intro e
  apply h
  have e2 : s.toList = emp.toList := by rw [e, emp_toList]
  exact toList_inj e2

set_option maxRecDepth 100000 in
set_option maxHeartbeats 40000000 in
theorem rinstr_raw (nm : ByteArray) (ar : Int) (b off len cap : Nat) (x : Ins) (n : Nat) (w : World) (L : ByteArray) (qA qa qB qC qN qV : Bool)
    (h : InsAt w b (off + n * 8) x) (hlt : (n : Int) < (len : Int)) (hl : (len : Int) ≤ 1000000000) (_hcap : (len : Int) ≤ (cap : Int))
    (HL : Hid (∀ w, Calls Tryz.prog 74 #[.int .i64 x.op] w fun e w' => e = .returned (.string L) ∧ w' = w))
    (HA : Hid (∀ w, Calls Tryz.prog 86 #[.string L, .int .u8 65, .int .i64 x.a] w fun e w' => e = .returned (.bool qA) ∧ w' = w))
    (HB : Hid (∀ w, Calls Tryz.prog 86 #[.string L, .int .u8 66, .int .i64 x.b] w fun e w' => e = .returned (.bool qB) ∧ w' = w))
    (HC : Hid (∀ w, Calls Tryz.prog 86 #[.string L, .int .u8 67, .int .i64 x.c] w fun e w' => e = .returned (.bool qC) ∧ w' = w))
    (Ha : Hid (∀ w, Calls Tryz.prog 87 #[.string L, .int .u8 97] w fun e w' => e = .returned (.bool qa) ∧ w' = w))
    (HV : Hid (∀ w, Calls Tryz.prog 87 #[.string L, .int .u8 86] w fun e w' => e = .returned (.bool qV) ∧ w' = w))
    (HN : Hid (∀ w, Calls Tryz.prog 88 #[.agg #[.string nm, .int .i64 ar, .slice (some ⟨b, off, none⟩) len cap], .agg #[.int .i64 x.op, .int .i64 x.a, .int .i64 x.b, .int .i64 x.c, .int .i64 x.n, .int .i64 x.k, .int .i64 x.i, .string x.t]] w fun e w' => e = .returned (.bool qN) ∧ Below w.heap.size w w')) :
    Calls Tryz.prog 65 #[.agg #[.string nm, .int .i64 ar, .slice (some ⟨b, off, none⟩) len cap], .int .i64 n] w
      fun e w' => e = .returned (.int .i64 (rinsErr L qA qa qB qC qN qV (decide (1 ≤ x.a)) (decide (x.a ≤ (len : Int) - 1 - n)) x.k x.i x.t)) ∧ Below w.heap.size w w' := by
  obtain ⟨c0, c1, c2, c3, c4, c5, c6, c7⟩ := h
  have m2 := World.new_ne w ⟨b, off + n * 8, none⟩ c0
  have m3 := World.block_lt_of_cell? w _ c0
  obtain ⟨R, hR⟩ : ∃ R, R = rinsErr L qA qa qB qC qN qV (decide (1 ≤ x.a)) (decide (x.a ≤ (len : Int) - 1 - n)) x.k x.i x.t := ⟨_, rfl⟩
  rw [← hR]
  by_cases h0 : L = ⟨#[63]⟩
  · have hR2 : R = 16 := by rw [hR]; simp [rinsErr, h0]
    rw [hR2]
    clear hR hR2
    subst h0
    go_enter Tryz.func65, Tryz.ntmps65
    go_wp2_with (first
      | (go_at_call 74; refine (HL.out _).mono ?_; rintro e w' ⟨rfl, e1⟩; rw [e1]; clear e1 w')
      | (go_at_call 86; first | (with_reducible refine (HA.out _).mono ?_) | (with_reducible refine (HB.out _).mono ?_) | (with_reducible refine (HC.out _).mono ?_)
         rintro e w' ⟨rfl, e1⟩; rw [e1]; clear e1 w')
      | (go_at_call 87; first | (with_reducible refine (Ha.out _).mono ?_) | (with_reducible refine (HV.out _).mono ?_)
         rintro e w' ⟨rfl, e1⟩; rw [e1]; clear e1 w')
      | (go_at_call 88
         refine (HN.out _).mono ?_
         rintro e w3 ⟨rfl, hb3⟩
         have H3 := hid (ri_below w hb3)
         obtain ⟨p0, p1, p2, -⟩ := vfacts H3.out.1
         obtain ⟨q0, q1, q2, q3, q4, q5, q6, q7, -⟩ := vfacts8 H3.out.2.1
         have k1 := lt_of H3.out.1
         have k2 := lt_of H3.out.2.1
         clear hb3)
      | (go_at_call 38
         refine (rcheck_any _ _ _ _).mono ?_
         rintro e w4 ⟨rfl, hb4⟩
         have H4 := hid (below_on H3.out.2.2 hb4)
         clear hb4))
    go_ret
    exact ⟨rfl, below2 w _ _⟩
  have hq : (L.toList == ([63] : List UInt8)) = false := toList_ne1 h0
  cases qa
  · cases qA
    · skip
      have hR2 : R = 16 := by rw [hR]; simp [rinsErr, h0]
      rw [hR2]
      clear hR hR2 h0 
      go_enter Tryz.func65, Tryz.ntmps65
      go_wp2_with (first
        | (go_at_call 74; refine (HL.out _).mono ?_; rintro e w' ⟨rfl, e1⟩; rw [e1]; clear e1 w')
        | (go_at_call 86; first | (with_reducible refine (HA.out _).mono ?_) | (with_reducible refine (HB.out _).mono ?_) | (with_reducible refine (HC.out _).mono ?_)
           rintro e w' ⟨rfl, e1⟩; rw [e1]; clear e1 w')
        | (go_at_call 87; first | (with_reducible refine (Ha.out _).mono ?_) | (with_reducible refine (HV.out _).mono ?_)
           rintro e w' ⟨rfl, e1⟩; rw [e1]; clear e1 w')
        | (go_at_call 88
           refine (HN.out _).mono ?_
           rintro e w3 ⟨rfl, hb3⟩
           have H3 := hid (ri_below w hb3)
           obtain ⟨p0, p1, p2, -⟩ := vfacts H3.out.1
           obtain ⟨q0, q1, q2, q3, q4, q5, q6, q7, -⟩ := vfacts8 H3.out.2.1
           have k1 := lt_of H3.out.1
           have k2 := lt_of H3.out.2.1
           clear hb3)
        | (go_at_call 38
           refine (rcheck_any _ _ _ _).mono ?_
           rintro e w4 ⟨rfl, hb4⟩
           have H4 := hid (below_on H3.out.2.2 hb4)
           clear hb4))
      go_ret
      exact ⟨rfl, H3.out.2.2⟩
    · skip
      cases qB
      · skip
        have hR2 : R = 16 := by rw [hR]; simp [rinsErr, h0]
        rw [hR2]
        clear hR hR2 h0 
        go_enter Tryz.func65, Tryz.ntmps65
        go_wp2_with (first
          | (go_at_call 74; refine (HL.out _).mono ?_; rintro e w' ⟨rfl, e1⟩; rw [e1]; clear e1 w')
          | (go_at_call 86; first | (with_reducible refine (HA.out _).mono ?_) | (with_reducible refine (HB.out _).mono ?_) | (with_reducible refine (HC.out _).mono ?_)
             rintro e w' ⟨rfl, e1⟩; rw [e1]; clear e1 w')
          | (go_at_call 87; first | (with_reducible refine (Ha.out _).mono ?_) | (with_reducible refine (HV.out _).mono ?_)
             rintro e w' ⟨rfl, e1⟩; rw [e1]; clear e1 w')
          | (go_at_call 88
             refine (HN.out _).mono ?_
             rintro e w3 ⟨rfl, hb3⟩
             have H3 := hid (ri_below w hb3)
             obtain ⟨p0, p1, p2, -⟩ := vfacts H3.out.1
             obtain ⟨q0, q1, q2, q3, q4, q5, q6, q7, -⟩ := vfacts8 H3.out.2.1
             have k1 := lt_of H3.out.1
             have k2 := lt_of H3.out.2.1
             clear hb3)
          | (go_at_call 38
             refine (rcheck_any _ _ _ _).mono ?_
             rintro e w4 ⟨rfl, hb4⟩
             have H4 := hid (below_on H3.out.2.2 hb4)
             clear hb4))
        go_ret
        exact ⟨rfl, H3.out.2.2⟩
      · skip
        cases qC
        · skip
          have hR2 : R = 16 := by rw [hR]; simp [rinsErr, h0]
          rw [hR2]
          clear hR hR2 h0 
          go_enter Tryz.func65, Tryz.ntmps65
          go_wp2_with (first
            | (go_at_call 74; refine (HL.out _).mono ?_; rintro e w' ⟨rfl, e1⟩; rw [e1]; clear e1 w')
            | (go_at_call 86; first | (with_reducible refine (HA.out _).mono ?_) | (with_reducible refine (HB.out _).mono ?_) | (with_reducible refine (HC.out _).mono ?_)
               rintro e w' ⟨rfl, e1⟩; rw [e1]; clear e1 w')
            | (go_at_call 87; first | (with_reducible refine (Ha.out _).mono ?_) | (with_reducible refine (HV.out _).mono ?_)
               rintro e w' ⟨rfl, e1⟩; rw [e1]; clear e1 w')
            | (go_at_call 88
               refine (HN.out _).mono ?_
               rintro e w3 ⟨rfl, hb3⟩
               have H3 := hid (ri_below w hb3)
               obtain ⟨p0, p1, p2, -⟩ := vfacts H3.out.1
               obtain ⟨q0, q1, q2, q3, q4, q5, q6, q7, -⟩ := vfacts8 H3.out.2.1
               have k1 := lt_of H3.out.1
               have k2 := lt_of H3.out.2.1
               clear hb3)
            | (go_at_call 38
               refine (rcheck_any _ _ _ _).mono ?_
               rintro e w4 ⟨rfl, hb4⟩
               have H4 := hid (below_on H3.out.2.2 hb4)
               clear hb4))
          go_ret
          exact ⟨rfl, H3.out.2.2⟩
        · skip
          cases qN
          · skip
            have hR2 : R = 16 := by rw [hR]; simp [rinsErr, h0]
            rw [hR2]
            clear hR hR2 h0 
            go_enter Tryz.func65, Tryz.ntmps65
            go_wp2_with (first
              | (go_at_call 74; refine (HL.out _).mono ?_; rintro e w' ⟨rfl, e1⟩; rw [e1]; clear e1 w')
              | (go_at_call 86; first | (with_reducible refine (HA.out _).mono ?_) | (with_reducible refine (HB.out _).mono ?_) | (with_reducible refine (HC.out _).mono ?_)
                 rintro e w' ⟨rfl, e1⟩; rw [e1]; clear e1 w')
              | (go_at_call 87; first | (with_reducible refine (Ha.out _).mono ?_) | (with_reducible refine (HV.out _).mono ?_)
                 rintro e w' ⟨rfl, e1⟩; rw [e1]; clear e1 w')
              | (go_at_call 88
                 refine (HN.out _).mono ?_
                 rintro e w3 ⟨rfl, hb3⟩
                 have H3 := hid (ri_below w hb3)
                 obtain ⟨p0, p1, p2, -⟩ := vfacts H3.out.1
                 obtain ⟨q0, q1, q2, q3, q4, q5, q6, q7, -⟩ := vfacts8 H3.out.2.1
                 have k1 := lt_of H3.out.1
                 have k2 := lt_of H3.out.2.1
                 clear hb3)
              | (go_at_call 38
                 refine (rcheck_any _ _ _ _).mono ?_
                 rintro e w4 ⟨rfl, hb4⟩
                 have H4 := hid (below_on H3.out.2.2 hb4)
                 clear hb4))
            go_ret
            exact ⟨rfl, H3.out.2.2⟩
          · skip
            cases qV
            · skip
              by_cases z1 : x.k = 0
              · have z1a : (x.k == 0) = true := by simpa using z1
                have z1b : (x.k != 0) = false := by simp [z1]
                by_cases z2 : x.i = 0
                · have z2a : (x.i == 0) = true := by simpa using z2
                  have z2b : (x.i != 0) = false := by simp [z2]
                  by_cases z3 : x.t = emp
                  · have z3a : (x.t.toList == ([] : List UInt8)) = true := by rw [z3, emp_toList]; rfl
                    have z3b : (x.t.toList != ([] : List UInt8)) = false := by rw [z3, emp_toList]; rfl
                    have hR2 : R = 0 := by rw [hR]; simp [rinsErr, h0, z1, z2, z3]
                    rw [hR2]
                    clear hR hR2 h0 z1 z2 z3
                    go_enter Tryz.func65, Tryz.ntmps65
                    go_wp2_with (first
                      | (go_at_call 74; refine (HL.out _).mono ?_; rintro e w' ⟨rfl, e1⟩; rw [e1]; clear e1 w')
                      | (go_at_call 86; first | (with_reducible refine (HA.out _).mono ?_) | (with_reducible refine (HB.out _).mono ?_) | (with_reducible refine (HC.out _).mono ?_)
                         rintro e w' ⟨rfl, e1⟩; rw [e1]; clear e1 w')
                      | (go_at_call 87; first | (with_reducible refine (Ha.out _).mono ?_) | (with_reducible refine (HV.out _).mono ?_)
                         rintro e w' ⟨rfl, e1⟩; rw [e1]; clear e1 w')
                      | (go_at_call 88
                         refine (HN.out _).mono ?_
                         rintro e w3 ⟨rfl, hb3⟩
                         have H3 := hid (ri_below w hb3)
                         obtain ⟨p0, p1, p2, -⟩ := vfacts H3.out.1
                         obtain ⟨q0, q1, q2, q3, q4, q5, q6, q7, -⟩ := vfacts8 H3.out.2.1
                         have k1 := lt_of H3.out.1
                         have k2 := lt_of H3.out.2.1
                         clear hb3)
                      | (go_at_call 38
                         refine (rcheck_any _ _ _ _).mono ?_
                         rintro e w4 ⟨rfl, hb4⟩
                         have H4 := hid (below_on H3.out.2.2 hb4)
                         clear hb4))
                    go_ret
                    exact ⟨rfl, H3.out.2.2⟩
                  · have z3a : (x.t.toList == ([] : List UInt8)) = false := toList_ne z3
                    have z3b : (x.t.toList != ([] : List UInt8)) = true := by simp [bne, z3a]
                    have hR2 : R = 16 := by rw [hR]; simp [rinsErr, h0, z1, z2, z3]
                    rw [hR2]
                    clear hR hR2 h0 z1 z2 z3
                    go_enter Tryz.func65, Tryz.ntmps65
                    go_wp2_with (first
                      | (go_at_call 74; refine (HL.out _).mono ?_; rintro e w' ⟨rfl, e1⟩; rw [e1]; clear e1 w')
                      | (go_at_call 86; first | (with_reducible refine (HA.out _).mono ?_) | (with_reducible refine (HB.out _).mono ?_) | (with_reducible refine (HC.out _).mono ?_)
                         rintro e w' ⟨rfl, e1⟩; rw [e1]; clear e1 w')
                      | (go_at_call 87; first | (with_reducible refine (Ha.out _).mono ?_) | (with_reducible refine (HV.out _).mono ?_)
                         rintro e w' ⟨rfl, e1⟩; rw [e1]; clear e1 w')
                      | (go_at_call 88
                         refine (HN.out _).mono ?_
                         rintro e w3 ⟨rfl, hb3⟩
                         have H3 := hid (ri_below w hb3)
                         obtain ⟨p0, p1, p2, -⟩ := vfacts H3.out.1
                         obtain ⟨q0, q1, q2, q3, q4, q5, q6, q7, -⟩ := vfacts8 H3.out.2.1
                         have k1 := lt_of H3.out.1
                         have k2 := lt_of H3.out.2.1
                         clear hb3)
                      | (go_at_call 38
                         refine (rcheck_any _ _ _ _).mono ?_
                         rintro e w4 ⟨rfl, hb4⟩
                         have H4 := hid (below_on H3.out.2.2 hb4)
                         clear hb4))
                    go_ret
                    exact ⟨rfl, H3.out.2.2⟩
                · have z2a : (x.i == 0) = false := by simpa using z2
                  have z2b : (x.i != 0) = true := by simp [z2]
                  have hR2 : R = 16 := by rw [hR]; simp [rinsErr, h0, z2, z1]
                  rw [hR2]
                  clear hR hR2 h0 z2 z1
                  go_enter Tryz.func65, Tryz.ntmps65
                  go_wp2_with (first
                    | (go_at_call 74; refine (HL.out _).mono ?_; rintro e w' ⟨rfl, e1⟩; rw [e1]; clear e1 w')
                    | (go_at_call 86; first | (with_reducible refine (HA.out _).mono ?_) | (with_reducible refine (HB.out _).mono ?_) | (with_reducible refine (HC.out _).mono ?_)
                       rintro e w' ⟨rfl, e1⟩; rw [e1]; clear e1 w')
                    | (go_at_call 87; first | (with_reducible refine (Ha.out _).mono ?_) | (with_reducible refine (HV.out _).mono ?_)
                       rintro e w' ⟨rfl, e1⟩; rw [e1]; clear e1 w')
                    | (go_at_call 88
                       refine (HN.out _).mono ?_
                       rintro e w3 ⟨rfl, hb3⟩
                       have H3 := hid (ri_below w hb3)
                       obtain ⟨p0, p1, p2, -⟩ := vfacts H3.out.1
                       obtain ⟨q0, q1, q2, q3, q4, q5, q6, q7, -⟩ := vfacts8 H3.out.2.1
                       have k1 := lt_of H3.out.1
                       have k2 := lt_of H3.out.2.1
                       clear hb3)
                    | (go_at_call 38
                       refine (rcheck_any _ _ _ _).mono ?_
                       rintro e w4 ⟨rfl, hb4⟩
                       have H4 := hid (below_on H3.out.2.2 hb4)
                       clear hb4))
                  go_ret
                  exact ⟨rfl, H3.out.2.2⟩
              · have z1a : (x.k == 0) = false := by simpa using z1
                have z1b : (x.k != 0) = true := by simp [z1]
                have hR2 : R = 16 := by rw [hR]; simp [rinsErr, h0, z1]
                rw [hR2]
                clear hR hR2 h0 z1
                go_enter Tryz.func65, Tryz.ntmps65
                go_wp2_with (first
                  | (go_at_call 74; refine (HL.out _).mono ?_; rintro e w' ⟨rfl, e1⟩; rw [e1]; clear e1 w')
                  | (go_at_call 86; first | (with_reducible refine (HA.out _).mono ?_) | (with_reducible refine (HB.out _).mono ?_) | (with_reducible refine (HC.out _).mono ?_)
                     rintro e w' ⟨rfl, e1⟩; rw [e1]; clear e1 w')
                  | (go_at_call 87; first | (with_reducible refine (Ha.out _).mono ?_) | (with_reducible refine (HV.out _).mono ?_)
                     rintro e w' ⟨rfl, e1⟩; rw [e1]; clear e1 w')
                  | (go_at_call 88
                     refine (HN.out _).mono ?_
                     rintro e w3 ⟨rfl, hb3⟩
                     have H3 := hid (ri_below w hb3)
                     obtain ⟨p0, p1, p2, -⟩ := vfacts H3.out.1
                     obtain ⟨q0, q1, q2, q3, q4, q5, q6, q7, -⟩ := vfacts8 H3.out.2.1
                     have k1 := lt_of H3.out.1
                     have k2 := lt_of H3.out.2.1
                     clear hb3)
                  | (go_at_call 38
                     refine (rcheck_any _ _ _ _).mono ?_
                     rintro e w4 ⟨rfl, hb4⟩
                     have H4 := hid (below_on H3.out.2.2 hb4)
                     clear hb4))
                go_ret
                exact ⟨rfl, H3.out.2.2⟩
            · skip
              have hR2 : R = chk x.k x.i x.t := by rw [hR]; simp [rinsErr, h0]
              rw [hR2]
              clear hR hR2 h0 
              go_enter Tryz.func65, Tryz.ntmps65
              go_wp2_with (first
                | (go_at_call 74; refine (HL.out _).mono ?_; rintro e w' ⟨rfl, e1⟩; rw [e1]; clear e1 w')
                | (go_at_call 86; first | (with_reducible refine (HA.out _).mono ?_) | (with_reducible refine (HB.out _).mono ?_) | (with_reducible refine (HC.out _).mono ?_)
                   rintro e w' ⟨rfl, e1⟩; rw [e1]; clear e1 w')
                | (go_at_call 87; first | (with_reducible refine (Ha.out _).mono ?_) | (with_reducible refine (HV.out _).mono ?_)
                   rintro e w' ⟨rfl, e1⟩; rw [e1]; clear e1 w')
                | (go_at_call 88
                   refine (HN.out _).mono ?_
                   rintro e w3 ⟨rfl, hb3⟩
                   have H3 := hid (ri_below w hb3)
                   obtain ⟨p0, p1, p2, -⟩ := vfacts H3.out.1
                   obtain ⟨q0, q1, q2, q3, q4, q5, q6, q7, -⟩ := vfacts8 H3.out.2.1
                   have k1 := lt_of H3.out.1
                   have k2 := lt_of H3.out.2.1
                   clear hb3)
                | (go_at_call 38
                   refine (rcheck_any _ _ _ _).mono ?_
                   rintro e w4 ⟨rfl, hb4⟩
                   have H4 := hid (below_on H3.out.2.2 hb4)
                   clear hb4))
              go_ret
              exact ⟨rfl, H4.out⟩
  · rcases Bool.eq_false_or_eq_true (decide (1 ≤ x.a)) with d1 | d1
    · rcases Bool.eq_false_or_eq_true (decide (x.a ≤ (len : Int) - 1 - n)) with d2 | d2
      · skip
        cases qB
        · skip
          have hR2 : R = 16 := by rw [hR]; simp [rinsErr, h0, d1, d2]
          rw [hR2]
          clear hR hR2 h0 
          go_enter Tryz.func65, Tryz.ntmps65
          go_wp2_with (first
            | (go_at_call 74; refine (HL.out _).mono ?_; rintro e w' ⟨rfl, e1⟩; rw [e1]; clear e1 w')
            | (go_at_call 86; first | (with_reducible refine (HA.out _).mono ?_) | (with_reducible refine (HB.out _).mono ?_) | (with_reducible refine (HC.out _).mono ?_)
               rintro e w' ⟨rfl, e1⟩; rw [e1]; clear e1 w')
            | (go_at_call 87; first | (with_reducible refine (Ha.out _).mono ?_) | (with_reducible refine (HV.out _).mono ?_)
               rintro e w' ⟨rfl, e1⟩; rw [e1]; clear e1 w')
            | (go_at_call 88
               refine (HN.out _).mono ?_
               rintro e w3 ⟨rfl, hb3⟩
               have H3 := hid (ri_below w hb3)
               obtain ⟨p0, p1, p2, -⟩ := vfacts H3.out.1
               obtain ⟨q0, q1, q2, q3, q4, q5, q6, q7, -⟩ := vfacts8 H3.out.2.1
               have k1 := lt_of H3.out.1
               have k2 := lt_of H3.out.2.1
               clear hb3)
            | (go_at_call 38
               refine (rcheck_any _ _ _ _).mono ?_
               rintro e w4 ⟨rfl, hb4⟩
               have H4 := hid (below_on H3.out.2.2 hb4)
               clear hb4))
          go_ret
          exact ⟨rfl, H3.out.2.2⟩
        · skip
          cases qC
          · skip
            have hR2 : R = 16 := by rw [hR]; simp [rinsErr, h0, d1, d2]
            rw [hR2]
            clear hR hR2 h0 
            go_enter Tryz.func65, Tryz.ntmps65
            go_wp2_with (first
              | (go_at_call 74; refine (HL.out _).mono ?_; rintro e w' ⟨rfl, e1⟩; rw [e1]; clear e1 w')
              | (go_at_call 86; first | (with_reducible refine (HA.out _).mono ?_) | (with_reducible refine (HB.out _).mono ?_) | (with_reducible refine (HC.out _).mono ?_)
                 rintro e w' ⟨rfl, e1⟩; rw [e1]; clear e1 w')
              | (go_at_call 87; first | (with_reducible refine (Ha.out _).mono ?_) | (with_reducible refine (HV.out _).mono ?_)
                 rintro e w' ⟨rfl, e1⟩; rw [e1]; clear e1 w')
              | (go_at_call 88
                 refine (HN.out _).mono ?_
                 rintro e w3 ⟨rfl, hb3⟩
                 have H3 := hid (ri_below w hb3)
                 obtain ⟨p0, p1, p2, -⟩ := vfacts H3.out.1
                 obtain ⟨q0, q1, q2, q3, q4, q5, q6, q7, -⟩ := vfacts8 H3.out.2.1
                 have k1 := lt_of H3.out.1
                 have k2 := lt_of H3.out.2.1
                 clear hb3)
              | (go_at_call 38
                 refine (rcheck_any _ _ _ _).mono ?_
                 rintro e w4 ⟨rfl, hb4⟩
                 have H4 := hid (below_on H3.out.2.2 hb4)
                 clear hb4))
            go_ret
            exact ⟨rfl, H3.out.2.2⟩
          · skip
            cases qN
            · skip
              have hR2 : R = 16 := by rw [hR]; simp [rinsErr, h0, d1, d2]
              rw [hR2]
              clear hR hR2 h0 
              go_enter Tryz.func65, Tryz.ntmps65
              go_wp2_with (first
                | (go_at_call 74; refine (HL.out _).mono ?_; rintro e w' ⟨rfl, e1⟩; rw [e1]; clear e1 w')
                | (go_at_call 86; first | (with_reducible refine (HA.out _).mono ?_) | (with_reducible refine (HB.out _).mono ?_) | (with_reducible refine (HC.out _).mono ?_)
                   rintro e w' ⟨rfl, e1⟩; rw [e1]; clear e1 w')
                | (go_at_call 87; first | (with_reducible refine (Ha.out _).mono ?_) | (with_reducible refine (HV.out _).mono ?_)
                   rintro e w' ⟨rfl, e1⟩; rw [e1]; clear e1 w')
                | (go_at_call 88
                   refine (HN.out _).mono ?_
                   rintro e w3 ⟨rfl, hb3⟩
                   have H3 := hid (ri_below w hb3)
                   obtain ⟨p0, p1, p2, -⟩ := vfacts H3.out.1
                   obtain ⟨q0, q1, q2, q3, q4, q5, q6, q7, -⟩ := vfacts8 H3.out.2.1
                   have k1 := lt_of H3.out.1
                   have k2 := lt_of H3.out.2.1
                   clear hb3)
                | (go_at_call 38
                   refine (rcheck_any _ _ _ _).mono ?_
                   rintro e w4 ⟨rfl, hb4⟩
                   have H4 := hid (below_on H3.out.2.2 hb4)
                   clear hb4))
              go_ret
              exact ⟨rfl, H3.out.2.2⟩
            · skip
              cases qV
              · skip
                by_cases z1 : x.k = 0
                · have z1a : (x.k == 0) = true := by simpa using z1
                  have z1b : (x.k != 0) = false := by simp [z1]
                  by_cases z2 : x.i = 0
                  · have z2a : (x.i == 0) = true := by simpa using z2
                    have z2b : (x.i != 0) = false := by simp [z2]
                    by_cases z3 : x.t = emp
                    · have z3a : (x.t.toList == ([] : List UInt8)) = true := by rw [z3, emp_toList]; rfl
                      have z3b : (x.t.toList != ([] : List UInt8)) = false := by rw [z3, emp_toList]; rfl
                      have hR2 : R = 0 := by rw [hR]; simp [rinsErr, h0, z1, z2, z3, d1, d2]
                      rw [hR2]
                      clear hR hR2 h0 z1 z2 z3
                      go_enter Tryz.func65, Tryz.ntmps65
                      go_wp2_with (first
                        | (go_at_call 74; refine (HL.out _).mono ?_; rintro e w' ⟨rfl, e1⟩; rw [e1]; clear e1 w')
                        | (go_at_call 86; first | (with_reducible refine (HA.out _).mono ?_) | (with_reducible refine (HB.out _).mono ?_) | (with_reducible refine (HC.out _).mono ?_)
                           rintro e w' ⟨rfl, e1⟩; rw [e1]; clear e1 w')
                        | (go_at_call 87; first | (with_reducible refine (Ha.out _).mono ?_) | (with_reducible refine (HV.out _).mono ?_)
                           rintro e w' ⟨rfl, e1⟩; rw [e1]; clear e1 w')
                        | (go_at_call 88
                           refine (HN.out _).mono ?_
                           rintro e w3 ⟨rfl, hb3⟩
                           have H3 := hid (ri_below w hb3)
                           obtain ⟨p0, p1, p2, -⟩ := vfacts H3.out.1
                           obtain ⟨q0, q1, q2, q3, q4, q5, q6, q7, -⟩ := vfacts8 H3.out.2.1
                           have k1 := lt_of H3.out.1
                           have k2 := lt_of H3.out.2.1
                           clear hb3)
                        | (go_at_call 38
                           refine (rcheck_any _ _ _ _).mono ?_
                           rintro e w4 ⟨rfl, hb4⟩
                           have H4 := hid (below_on H3.out.2.2 hb4)
                           clear hb4))
                      go_ret
                      exact ⟨rfl, H3.out.2.2⟩
                    · have z3a : (x.t.toList == ([] : List UInt8)) = false := toList_ne z3
                      have z3b : (x.t.toList != ([] : List UInt8)) = true := by simp [bne, z3a]
                      have hR2 : R = 16 := by rw [hR]; simp [rinsErr, h0, z1, z2, z3, d1, d2]
                      rw [hR2]
                      clear hR hR2 h0 z1 z2 z3
                      go_enter Tryz.func65, Tryz.ntmps65
                      go_wp2_with (first
                        | (go_at_call 74; refine (HL.out _).mono ?_; rintro e w' ⟨rfl, e1⟩; rw [e1]; clear e1 w')
                        | (go_at_call 86; first | (with_reducible refine (HA.out _).mono ?_) | (with_reducible refine (HB.out _).mono ?_) | (with_reducible refine (HC.out _).mono ?_)
                           rintro e w' ⟨rfl, e1⟩; rw [e1]; clear e1 w')
                        | (go_at_call 87; first | (with_reducible refine (Ha.out _).mono ?_) | (with_reducible refine (HV.out _).mono ?_)
                           rintro e w' ⟨rfl, e1⟩; rw [e1]; clear e1 w')
                        | (go_at_call 88
                           refine (HN.out _).mono ?_
                           rintro e w3 ⟨rfl, hb3⟩
                           have H3 := hid (ri_below w hb3)
                           obtain ⟨p0, p1, p2, -⟩ := vfacts H3.out.1
                           obtain ⟨q0, q1, q2, q3, q4, q5, q6, q7, -⟩ := vfacts8 H3.out.2.1
                           have k1 := lt_of H3.out.1
                           have k2 := lt_of H3.out.2.1
                           clear hb3)
                        | (go_at_call 38
                           refine (rcheck_any _ _ _ _).mono ?_
                           rintro e w4 ⟨rfl, hb4⟩
                           have H4 := hid (below_on H3.out.2.2 hb4)
                           clear hb4))
                      go_ret
                      exact ⟨rfl, H3.out.2.2⟩
                  · have z2a : (x.i == 0) = false := by simpa using z2
                    have z2b : (x.i != 0) = true := by simp [z2]
                    have hR2 : R = 16 := by rw [hR]; simp [rinsErr, h0, z2, z1, d1, d2]
                    rw [hR2]
                    clear hR hR2 h0 z2 z1
                    go_enter Tryz.func65, Tryz.ntmps65
                    go_wp2_with (first
                      | (go_at_call 74; refine (HL.out _).mono ?_; rintro e w' ⟨rfl, e1⟩; rw [e1]; clear e1 w')
                      | (go_at_call 86; first | (with_reducible refine (HA.out _).mono ?_) | (with_reducible refine (HB.out _).mono ?_) | (with_reducible refine (HC.out _).mono ?_)
                         rintro e w' ⟨rfl, e1⟩; rw [e1]; clear e1 w')
                      | (go_at_call 87; first | (with_reducible refine (Ha.out _).mono ?_) | (with_reducible refine (HV.out _).mono ?_)
                         rintro e w' ⟨rfl, e1⟩; rw [e1]; clear e1 w')
                      | (go_at_call 88
                         refine (HN.out _).mono ?_
                         rintro e w3 ⟨rfl, hb3⟩
                         have H3 := hid (ri_below w hb3)
                         obtain ⟨p0, p1, p2, -⟩ := vfacts H3.out.1
                         obtain ⟨q0, q1, q2, q3, q4, q5, q6, q7, -⟩ := vfacts8 H3.out.2.1
                         have k1 := lt_of H3.out.1
                         have k2 := lt_of H3.out.2.1
                         clear hb3)
                      | (go_at_call 38
                         refine (rcheck_any _ _ _ _).mono ?_
                         rintro e w4 ⟨rfl, hb4⟩
                         have H4 := hid (below_on H3.out.2.2 hb4)
                         clear hb4))
                    go_ret
                    exact ⟨rfl, H3.out.2.2⟩
                · have z1a : (x.k == 0) = false := by simpa using z1
                  have z1b : (x.k != 0) = true := by simp [z1]
                  have hR2 : R = 16 := by rw [hR]; simp [rinsErr, h0, z1, d1, d2]
                  rw [hR2]
                  clear hR hR2 h0 z1
                  go_enter Tryz.func65, Tryz.ntmps65
                  go_wp2_with (first
                    | (go_at_call 74; refine (HL.out _).mono ?_; rintro e w' ⟨rfl, e1⟩; rw [e1]; clear e1 w')
                    | (go_at_call 86; first | (with_reducible refine (HA.out _).mono ?_) | (with_reducible refine (HB.out _).mono ?_) | (with_reducible refine (HC.out _).mono ?_)
                       rintro e w' ⟨rfl, e1⟩; rw [e1]; clear e1 w')
                    | (go_at_call 87; first | (with_reducible refine (Ha.out _).mono ?_) | (with_reducible refine (HV.out _).mono ?_)
                       rintro e w' ⟨rfl, e1⟩; rw [e1]; clear e1 w')
                    | (go_at_call 88
                       refine (HN.out _).mono ?_
                       rintro e w3 ⟨rfl, hb3⟩
                       have H3 := hid (ri_below w hb3)
                       obtain ⟨p0, p1, p2, -⟩ := vfacts H3.out.1
                       obtain ⟨q0, q1, q2, q3, q4, q5, q6, q7, -⟩ := vfacts8 H3.out.2.1
                       have k1 := lt_of H3.out.1
                       have k2 := lt_of H3.out.2.1
                       clear hb3)
                    | (go_at_call 38
                       refine (rcheck_any _ _ _ _).mono ?_
                       rintro e w4 ⟨rfl, hb4⟩
                       have H4 := hid (below_on H3.out.2.2 hb4)
                       clear hb4))
                  go_ret
                  exact ⟨rfl, H3.out.2.2⟩
              · skip
                have hR2 : R = chk x.k x.i x.t := by rw [hR]; simp [rinsErr, h0, d1, d2]
                rw [hR2]
                clear hR hR2 h0 
                go_enter Tryz.func65, Tryz.ntmps65
                go_wp2_with (first
                  | (go_at_call 74; refine (HL.out _).mono ?_; rintro e w' ⟨rfl, e1⟩; rw [e1]; clear e1 w')
                  | (go_at_call 86; first | (with_reducible refine (HA.out _).mono ?_) | (with_reducible refine (HB.out _).mono ?_) | (with_reducible refine (HC.out _).mono ?_)
                     rintro e w' ⟨rfl, e1⟩; rw [e1]; clear e1 w')
                  | (go_at_call 87; first | (with_reducible refine (Ha.out _).mono ?_) | (with_reducible refine (HV.out _).mono ?_)
                     rintro e w' ⟨rfl, e1⟩; rw [e1]; clear e1 w')
                  | (go_at_call 88
                     refine (HN.out _).mono ?_
                     rintro e w3 ⟨rfl, hb3⟩
                     have H3 := hid (ri_below w hb3)
                     obtain ⟨p0, p1, p2, -⟩ := vfacts H3.out.1
                     obtain ⟨q0, q1, q2, q3, q4, q5, q6, q7, -⟩ := vfacts8 H3.out.2.1
                     have k1 := lt_of H3.out.1
                     have k2 := lt_of H3.out.2.1
                     clear hb3)
                  | (go_at_call 38
                     refine (rcheck_any _ _ _ _).mono ?_
                     rintro e w4 ⟨rfl, hb4⟩
                     have H4 := hid (below_on H3.out.2.2 hb4)
                     clear hb4))
                go_ret
                exact ⟨rfl, H4.out⟩
      · skip
        have hR2 : R = 16 := by rw [hR]; simp [rinsErr, h0, d1, d2]
        rw [hR2]
        clear hR hR2 h0 
        go_enter Tryz.func65, Tryz.ntmps65
        go_wp2_with (first
          | (go_at_call 74; refine (HL.out _).mono ?_; rintro e w' ⟨rfl, e1⟩; rw [e1]; clear e1 w')
          | (go_at_call 86; first | (with_reducible refine (HA.out _).mono ?_) | (with_reducible refine (HB.out _).mono ?_) | (with_reducible refine (HC.out _).mono ?_)
             rintro e w' ⟨rfl, e1⟩; rw [e1]; clear e1 w')
          | (go_at_call 87; first | (with_reducible refine (Ha.out _).mono ?_) | (with_reducible refine (HV.out _).mono ?_)
             rintro e w' ⟨rfl, e1⟩; rw [e1]; clear e1 w')
          | (go_at_call 88
             refine (HN.out _).mono ?_
             rintro e w3 ⟨rfl, hb3⟩
             have H3 := hid (ri_below w hb3)
             obtain ⟨p0, p1, p2, -⟩ := vfacts H3.out.1
             obtain ⟨q0, q1, q2, q3, q4, q5, q6, q7, -⟩ := vfacts8 H3.out.2.1
             have k1 := lt_of H3.out.1
             have k2 := lt_of H3.out.2.1
             clear hb3)
          | (go_at_call 38
             refine (rcheck_any _ _ _ _).mono ?_
             rintro e w4 ⟨rfl, hb4⟩
             have H4 := hid (below_on H3.out.2.2 hb4)
             clear hb4))
        go_ret
        exact ⟨rfl, H3.out.2.2⟩
    · skip
      have hR2 : R = 16 := by rw [hR]; simp [rinsErr, h0, d1]
      rw [hR2]
      clear hR hR2 h0 
      go_enter Tryz.func65, Tryz.ntmps65
      go_wp2_with (first
        | (go_at_call 74; refine (HL.out _).mono ?_; rintro e w' ⟨rfl, e1⟩; rw [e1]; clear e1 w')
        | (go_at_call 86; first | (with_reducible refine (HA.out _).mono ?_) | (with_reducible refine (HB.out _).mono ?_) | (with_reducible refine (HC.out _).mono ?_)
           rintro e w' ⟨rfl, e1⟩; rw [e1]; clear e1 w')
        | (go_at_call 87; first | (with_reducible refine (Ha.out _).mono ?_) | (with_reducible refine (HV.out _).mono ?_)
           rintro e w' ⟨rfl, e1⟩; rw [e1]; clear e1 w')
        | (go_at_call 88
           refine (HN.out _).mono ?_
           rintro e w3 ⟨rfl, hb3⟩
           have H3 := hid (ri_below w hb3)
           obtain ⟨p0, p1, p2, -⟩ := vfacts H3.out.1
           obtain ⟨q0, q1, q2, q3, q4, q5, q6, q7, -⟩ := vfacts8 H3.out.2.1
           have k1 := lt_of H3.out.1
           have k2 := lt_of H3.out.2.1
           clear hb3)
        | (go_at_call 38
           refine (rcheck_any _ _ _ _).mono ?_
           rintro e w4 ⟨rfl, hb4⟩
           have H4 := hid (below_on H3.out.2.2 hb4)
           clear hb4))
      go_ret
      exact ⟨rfl, H3.out.2.2⟩

end Go.Proofs.YtdnlfacfleemeaaGreat
