import Derived.Test.YtkalppcekmlgbaaOd
import Derived.Test.YtkalppcekmlgbaaFe
namespace Go.Proofs.Ytkalppcekmlgbaa
open Go.RowKit

/-- In the second loop: j keys are gone through, kk of them not empty, a the last one. -/
structure OJ (T : Tr) (j kk : Nat) (a : ByteArray) : Prop where
  jl : j ≤ T.toL.length
  z0 : j = 0 → a = ⟨#[]⟩ ∧ kk = 0
  z1 : 0 < j → (∃ e, T.toL[j - 1]? = some e ∧ a = e.2.1) ∧ (kk = j ∨ kk + 1 = j)

theorem OJ.gtr {T : Tr} {j kk : Nat} {a : ByteArray} (h : OJ T j kk a) (hr : Rises T.toL) (hne : ∀ h0 : j < T.toL.length, T.toL[j].2.1 ≠ ⟨#[]⟩) : gtrE a T.toL = T.toL[j]? := by
  by_cases h0 : 0 < j
  · obtain ⟨⟨e, he, ha⟩, -⟩ := h.z1 h0
    have hlt : j - 1 < T.toL.length := by have := h.jl; omega
    rw [List.getElem?_eq_getElem hlt] at he
    injection he with he
    rw [ha, ← he, gtr_at hr (j - 1) hlt]
    congr 1
    omega
  · have hj : j = 0 := by omega
    subst hj
    rw [(h.z0 rfl).1]
    exact gtr_first hr hne

theorem OJ.next {T : Tr} {j kk : Nat} {a : ByteArray} (h : OJ T j kk a) (hlt : j < T.toL.length) : OJ T (j + 1) (kk + 1) T.toL[j].2.1 := by
  refine ⟨hlt, fun h0 => by omega, fun _ => ⟨⟨T.toL[j], by simp [hlt], rfl⟩, ?_⟩⟩
  by_cases h0 : 0 < j
  · have := (h.z1 h0).2; omega
  · have := (h.z0 (by omega)).2; omega

theorem OJ.skip {T : Tr} {j kk : Nat} {a : ByteArray} (h : OJ T j kk a) (hr : Rises T.toL) (hlt : j < T.toL.length) (he : T.toL[j].2.1 = ⟨#[]⟩) : OJ T (j + 1) kk a := by
  have hj : j = 0 := by
    rcases Nat.eq_zero_or_pos j with h0 | h0
    · exact h0
    · have := List.pairwise_iff_getElem.1 hr (j - 1) j (by omega) hlt (by omega)
      rw [he, kl_empty] at this
      cases this
  subst hj
  obtain ⟨rfl, rfl⟩ := h.z0 rfl
  exact ⟨hlt, fun h0 => by omega, fun _ => ⟨⟨T.toL[0], by simp [hlt], he.symm⟩, .inr rfl⟩⟩

theorem OJ.fin {T : Tr} {kk : Nat} {a : ByteArray} (h : OJ T T.toL.length kk a) (hr : Rises T.toL) : nextV a T.toL = .tuple #[.string ⟨#[]⟩, .bool false] ∧ (kk = T.toL.length ∨ (kk : Int) = (T.toL.length : Int) - 1) := by
  have h1 : gtrE a T.toL = none := by
    rw [h.gtr hr (fun h0 => by omega)]
    simp
  refine ⟨by unfold nextV; rw [h1], ?_⟩
  by_cases h0 : 0 < T.toL.length
  · have := (h.z1 h0).2; omega
  · have := (h.z0 (by omega)).2; omega

theorem nextV_at {T : Tr} {j kk : Nat} {a : ByteArray} (h : OJ T j kk a) (hr : Rises T.toL) (hlt : j < T.toL.length) (hne : T.toL[j].2.1 ≠ ⟨#[]⟩) : nextV a T.toL = .tuple #[.string T.toL[j].2.1, .bool true] := by
  unfold nextV
  rw [h.gtr hr (fun _ => hne), List.getElem?_eq_getElem hlt]

/-- The second loop, and what is behind it: from the world w3 on. -/
structure OL (w w3 wr : World) (S : Nat) (T : Tr) (lv : Value) : Prop where
  oe : OE w w3 S T lv
  bl : Below w3.heap.size w3 wr

theorem OL.ti {w w3 wr : World} {S : Nat} {T : Tr} {lv : Value} (h : OL w w3 wr S T lv) : TI w.heap.size w wr (w.heap.size + 1) T := h.oe.ti.below h.bl

set_option maxRecDepth 100000 in
set_option maxHeartbeats 8000000 in
theorem order_any (kv : Value) (ks : List ByteArray) (w : World) (hr : Rf w 1 kv ks.length (ks.map Value.string)) (hsh : ∀ q ∈ ks, q.size ≤ 281474976710656) :
    Calls Try.prog 8 #[kv] w fun x w' => x = .returned (.bool true) ∧ Below w.heap.size w w' := by
  obtain ⟨a1, q1, e1, hcp1, hmx1⟩ := hr.shape
  have KN := hid known_any
  have NW := hid new_any
  have HA := hid (And.intro hr hsh)
  have hmf : ∀ (fn : Fn) (first cap : Array Value) (w : World), (Instr.makeFunc fn first cap).run Try.prog w = .ok (.func fn first cap) w := fun _ _ _ _ => rfl
  have hEq := fnNil
  subst e1
  clear hr hsh
  go_enter Try.func8, Try.ntmps8
  go_wp2_with (
    go_at_call 9
    refine (NW.out _).mono ?_
    rintro e w1 ⟨rfl, ht1, hb1, hs1⟩
    have N1 := hid (show OP w w1 (.slice a1 ks.length q1) ks 0 .nil from ⟨⟨hb1, by simp, by simpa using ht1, fun i hi => (by cases hi)⟩, Kz.nil ks⟩)
    clear ht1 hb1 hs1 NW)
  go_loopw [4] (fun i wr => ∃ (k : Nat) (t : Tr), i = .int .i64 k ∧ k ≤ ks.length ∧ k ≤ 300 ∧ Hid (OP w wr (.slice a1 ks.length q1) ks k t)) (fun i _ => 300 - (intOf i).toNat)
  case atStart => exact ⟨0, .nil, rfl, Nat.zero_le _, Nat.zero_le _, N1⟩
  case round =>
    obtain ⟨k, T, rfl, hk, hk3, hq⟩ := hrel
    have c0 := cells1 hq.out.bk
    by_cases h12 : k < ks.length ∧ k < 300
    · obtain ⟨h1, h2⟩ := h12
      have h2' : (k : Int) < 300 := by omega
      obtain ⟨gb, off, cap', hbody2, -, -, hcell⟩ := (HA.out.1.below hq.out.bl).lits (by omega) (by omega)
      injection hbody2 with hb3 hb4 hb5
      subst hb3 hb5
      have v0 := hcell k (.string ks[k]) (by rw [List.getElem?_map, List.getElem?_eq_getElem h1]; rfl)
      have hkey : ks[k]? = some ks[k] := List.getElem?_eq_getElem h1
      have hsz : ks[k].size ≤ 281474976710656 := HA.out.2 _ (List.getElem_mem h1)
      generalize ks[k] = key at v0 hkey hsz
      have PU := hid (put_any (w.heap.size + 1) key k T wr hq.out.ti.tb (by have := hq.out.kz.ln; unfold Tr.n; omega) hsz)
      have HK := hid hkey
      clear hcell hb4 hkey hsz hcp1 hmx1
      go_wp2_with (
        go_at_call 21
        refine PU.out.mono ?_
        rintro e w2 ⟨t', rfl, hp⟩
        have N2 := hid (hq.out.put hp HK.out)
        clear hp)
      go_roundw
      case rel => exact ⟨k + 1, t', by go_num, by omega, by omega, N2⟩
      case measure => simp [intOf]; omega
    · have RG := hid (range_any (some ⟨w.heap.size + 1, 0, none⟩) ⟨#[]⟩ ⟨#[]⟩ (fourW wr) (by decide) (by decide))
      have IT := hid (fun (w1 : World) (g1 g2 g3 : Nat) hi hb hg => ord_iter (w1 := w1) (g1 := g1) (g2 := g2) (g3 := g3) hq.out ⟨hk3, hk⟩ HA.out.1 HA.out.2 hi hb hg)
      have SH := hid (hq.out.kz.short HA.out.2)
      have HLN := hid hq.out.kz.ln
      have HL3 := hid (show T.toL.length ≤ 300 from Nat.le_trans hq.out.kz.ln hk3)
      clear hcp1 hmx1
      by_cases h1 : k < ks.length
      · have h2' : ¬ (k : Int) < 300 := by omega
        clear h12
        go_wp2_with (first
          | (go_at_call 12
             refine RG.out.mono ?_
             rintro e w1 ⟨g1, g2, g3, rfl, hi, hb, hg1, hg2, hg3⟩
             have I2 := hid (IT.out w1 g1 g2 g3 hi hb ⟨hg1, hg2, hg3⟩)
             clear hi hb hg1 hg2 hg3 RG IT)
          | (go_at_call 27
             refine I2.out.mono ?_
             rintro e w3 ⟨rfl, lv, hoe⟩
             have OE3 := hid hoe
             have LN := hid (show ∀ W, Below w3.heap.size w3 W → Calls Try.prog 19 #[.pointer (some ⟨w.heap.size + 1, 0, none⟩)] W fun x w' => x = .returned (.int .i64 (T.toL.length : Nat)) ∧ w' = W from fun W hb => len_any (some ⟨w.heap.size + 1, 0, none⟩) T W (hoe.ti.below hb).to)
             have c1 := cells1 hoe.bn
             have c2 := cells1 hoe.bo
             have c3 := cells1 hoe.bv
             obtain ⟨ao, cc, elv⟩ := own_shape hoe.ow
             rw [elv] at c3
             clear hoe I2))
        go_quiet (first | (go_at_call 19; exact Calls.quiet_of_same (LN.out _ (blw_drewN (Below.refl _ _)))) | (go_at_call 19; exact Calls.quiet_of_same (LN.out _ (Below.refl _ _))) | (go_at_call 19; exact Calls.quiet_of_same (LN.out _ (Below.refl _ _).drew)))
        go_wp2_with fail
        clear hq c0 LN hEq hmf hk hk3
        generalize wr.heap.size = S at c1 c2 c3 OE3 ⊢
        have BQ := hid (show Below w3.heap.size w3 (w3.drewN nq) from blw_drewN (Below.refl _ _))
        generalize w3.drewN nq = W3 at BQ ⊢
        have HRS := hid OE3.out.ti.tb.rs
        have NX := hid (fun W a (hb : Below w3.heap.size w3 W) => next_any (some ⟨w.heap.size + 1, 0, none⟩) a T W (OE3.out.ti.below hb).to SH.out)
        go_loopw [10, 11, 12] (fun at_ kk i wx => ∃ (j k2 : Nat) (a : ByteArray), at_ = .string a ∧ kk = .int .i64 k2 ∧ i = .int .i64 j ∧ k2 ≤ 300 ∧ Hid (OJ T j k2 a) ∧ Hid (Below w3.heap.size w3 wx)) (fun _ _ i _ => T.toL.length - (intOf i).toNat)
        case atStart => exact ⟨0, 0, ⟨#[]⟩, rfl, rfl, rfl, Nat.zero_le _, hid ⟨Nat.zero_le _, fun _ => ⟨rfl, rfl⟩, fun h0 => by omega⟩, BQ⟩
        case round =>
          obtain ⟨j, k2, a, rfl, rfl, rfl, hk2, hj, hbx⟩ := hrel
          have c3' := (hbx.out.cell (p := ⟨S + 3, 0, none⟩) (World.block_lt_of_cell? _ _ c3)).trans c3
          have c1' := (hbx.out.cell (p := ⟨S + 1, 0, none⟩) (World.block_lt_of_cell? _ _ c1)).trans c1
          have hN := HL3.out
          by_cases hlt : j < T.toL.length
          · obtain ⟨gb, off, cap', e', -, -, hcell⟩ := (rf_of_owns OE3.out.ow (fun u hu => by obtain ⟨q, _, rfl⟩ := List.mem_map.1 hu; rfl)).lits (by omega) (by omega)
            rw [elv] at e'
            injection e' with ex _ ey
            subst ex ey
            have v0 := hcell j (.string T.toL[j].2.1) (by rw [List.getElem?_map, List.getElem?_eq_getElem hlt]; rfl)
            have v0' := (hbx.out.cell (World.block_lt_of_cell? _ _ v0)).trans v0
            by_cases he : T.toL[j].2.1 = ⟨#[]⟩
            · have SK := hid (hj.out.skip HRS.out hlt he)
              have b0 := emp_eq he
              generalize T.toL[j].2.1 = key at v0 v0' b0
              clear he hcell HLN
              go_wp2_with fail
              go_roundw
              case rel => exact ⟨j + 1, k2, a, rfl, rfl, by go_num, hk2, SK, hbx⟩
              case measure => simp [intOf]; omega
            · have SK := hid (hj.out.next hlt)
              have hk22 : k2 + 1 ≤ 300 := by
                rcases Nat.eq_zero_or_pos j with h0 | h0
                · have := (hj.out.z0 h0).2; omega
                · have := (hj.out.z1 h0).2; omega
              have NX2 := hid (show Calls Try.prog 23 #[.pointer (some ⟨w.heap.size + 1, 0, none⟩), .string a] wr fun x w' => x = .returned (.tuple #[.string T.toL[j].2.1, .bool true]) ∧ Below wr.heap.size wr w' from by
                have := NX.out wr a hbx.out
                rw [nextV_at hj.out HRS.out hlt he] at this
                exact this)
              have b0 := emp_ne he
              have bk : (T.toL[j].2.1.toList == T.toL[j].2.1.toList) = true := by simp
              generalize T.toL[j].2.1 = key at v0 v0' b0 SK NX2 bk
              clear he hcell HLN
              go_wp2_with (
                go_at_call 23
                refine NX2.out.mono ?_
                rintro e w5 ⟨rfl, hb5⟩
                have B5 := hid (below_on hbx.out hb5)
                have d3 := (B5.out.cell (p := ⟨S + 3, 0, none⟩) (World.block_lt_of_cell? _ _ c3)).trans c3
                have d0 := (B5.out.cell (World.block_lt_of_cell? _ _ v0)).trans v0
                clear hb5)
              go_roundw
              case rel => exact ⟨j + 1, k2 + 1, key, rfl, by go_num, by go_num, hk22, SK, B5⟩
              case measure => simp [intOf]; omega
          · have hje : j = T.toL.length := by have := hj.out.jl; omega
            subst hje
            obtain ⟨f1, f2⟩ := hj.out.fin HRS.out
            have NX2 := hid (show Calls Try.prog 23 #[.pointer (some ⟨w.heap.size + 1, 0, none⟩), .string a] wr fun x w' => x = .returned (.tuple #[.string ⟨#[]⟩, .bool false]) ∧ Below wr.heap.size wr w' from by
              have := NX.out wr a hbx.out
              rw [f1] at this
              exact this)
            have HBW := hid OE3.out.ti.bl
            clear f1 hlt HLN HL3
            generalize T.toL.length = N at c1 c1' c3 c3' f2 hN ⊢
            by_cases hkn : k2 = N
            · have b1 : ((k2 : Int) == (N : Int)) = true := by rw [beq_iff_eq]; omega
              clear f2 hkn
              go_wp2_with (first
                | (go_at_call 23
                   refine NX2.out.mono ?_
                   rintro e w5 ⟨rfl, hb5⟩
                   have B5 := hid (below_on hbx.out hb5)
                   have d1 := (B5.out.cell (p := ⟨S + 1, 0, none⟩) (World.block_lt_of_cell? _ _ c1)).trans c1
                   clear hb5)
                | (go_at_call 11
                   refine (KN.out w5).mono ?_
                   rintro e w6 ⟨rfl, hb6⟩
                   have B6 := hid (below_on B5.out hb6)
                   clear hb6))
              go_ret
              exact ⟨rfl, below_on HBW.out B6.out⟩
            · have b1 : ((k2 : Int) == (N : Int)) = false := by rw [beq_eq_false_iff_ne]; omega
              have b2 : ((k2 : Int) == (N : Int) - 1) = true := by rw [beq_iff_eq]; omega
              clear f2 hkn
              go_wp2_with (first
                | (go_at_call 23
                   refine NX2.out.mono ?_
                   rintro e w5 ⟨rfl, hb5⟩
                   have B5 := hid (below_on hbx.out hb5)
                   have d1 := (B5.out.cell (p := ⟨S + 1, 0, none⟩) (World.block_lt_of_cell? _ _ c1)).trans c1
                   clear hb5)
                | (go_at_call 11
                   refine (KN.out w5).mono ?_
                   rintro e w6 ⟨rfl, hb6⟩
                   have B6 := hid (below_on B5.out hb6)
                   clear hb6))
              go_ret
              exact ⟨rfl, below_on HBW.out B6.out⟩
      · clear h12
        go_wp2_with (first
          | (go_at_call 12
             refine RG.out.mono ?_
             rintro e w1 ⟨g1, g2, g3, rfl, hi, hb, hg1, hg2, hg3⟩
             have I2 := hid (IT.out w1 g1 g2 g3 hi hb ⟨hg1, hg2, hg3⟩)
             clear hi hb hg1 hg2 hg3 RG IT)
          | (go_at_call 27
             refine I2.out.mono ?_
             rintro e w3 ⟨rfl, lv, hoe⟩
             have OE3 := hid hoe
             have LN := hid (show ∀ W, Below w3.heap.size w3 W → Calls Try.prog 19 #[.pointer (some ⟨w.heap.size + 1, 0, none⟩)] W fun x w' => x = .returned (.int .i64 (T.toL.length : Nat)) ∧ w' = W from fun W hb => len_any (some ⟨w.heap.size + 1, 0, none⟩) T W (hoe.ti.below hb).to)
             have c1 := cells1 hoe.bn
             have c2 := cells1 hoe.bo
             have c3 := cells1 hoe.bv
             obtain ⟨ao, cc, elv⟩ := own_shape hoe.ow
             rw [elv] at c3
             clear hoe I2))
        go_quiet (first | (go_at_call 19; exact Calls.quiet_of_same (LN.out _ (blw_drewN (Below.refl _ _)))) | (go_at_call 19; exact Calls.quiet_of_same (LN.out _ (Below.refl _ _))) | (go_at_call 19; exact Calls.quiet_of_same (LN.out _ (Below.refl _ _).drew)))
        go_wp2_with fail
        clear hq c0 LN hEq hmf hk hk3
        generalize wr.heap.size = S at c1 c2 c3 OE3 ⊢
        have BQ := hid (show Below w3.heap.size w3 (w3.drewN nq) from blw_drewN (Below.refl _ _))
        generalize w3.drewN nq = W3 at BQ ⊢
        have HRS := hid OE3.out.ti.tb.rs
        have NX := hid (fun W a (hb : Below w3.heap.size w3 W) => next_any (some ⟨w.heap.size + 1, 0, none⟩) a T W (OE3.out.ti.below hb).to SH.out)
        go_loopw [10, 11, 12] (fun at_ kk i wx => ∃ (j k2 : Nat) (a : ByteArray), at_ = .string a ∧ kk = .int .i64 k2 ∧ i = .int .i64 j ∧ k2 ≤ 300 ∧ Hid (OJ T j k2 a) ∧ Hid (Below w3.heap.size w3 wx)) (fun _ _ i _ => T.toL.length - (intOf i).toNat)
        case atStart => exact ⟨0, 0, ⟨#[]⟩, rfl, rfl, rfl, Nat.zero_le _, hid ⟨Nat.zero_le _, fun _ => ⟨rfl, rfl⟩, fun h0 => by omega⟩, BQ⟩
        case round =>
          obtain ⟨j, k2, a, rfl, rfl, rfl, hk2, hj, hbx⟩ := hrel
          have c3' := (hbx.out.cell (p := ⟨S + 3, 0, none⟩) (World.block_lt_of_cell? _ _ c3)).trans c3
          have c1' := (hbx.out.cell (p := ⟨S + 1, 0, none⟩) (World.block_lt_of_cell? _ _ c1)).trans c1
          have hN := HL3.out
          by_cases hlt : j < T.toL.length
          · obtain ⟨gb, off, cap', e', -, -, hcell⟩ := (rf_of_owns OE3.out.ow (fun u hu => by obtain ⟨q, _, rfl⟩ := List.mem_map.1 hu; rfl)).lits (by omega) (by omega)
            rw [elv] at e'
            injection e' with ex _ ey
            subst ex ey
            have v0 := hcell j (.string T.toL[j].2.1) (by rw [List.getElem?_map, List.getElem?_eq_getElem hlt]; rfl)
            have v0' := (hbx.out.cell (World.block_lt_of_cell? _ _ v0)).trans v0
            by_cases he : T.toL[j].2.1 = ⟨#[]⟩
            · have SK := hid (hj.out.skip HRS.out hlt he)
              have b0 := emp_eq he
              generalize T.toL[j].2.1 = key at v0 v0' b0
              clear he hcell HLN
              go_wp2_with fail
              go_roundw
              case rel => exact ⟨j + 1, k2, a, rfl, rfl, by go_num, hk2, SK, hbx⟩
              case measure => simp [intOf]; omega
            · have SK := hid (hj.out.next hlt)
              have hk22 : k2 + 1 ≤ 300 := by
                rcases Nat.eq_zero_or_pos j with h0 | h0
                · have := (hj.out.z0 h0).2; omega
                · have := (hj.out.z1 h0).2; omega
              have NX2 := hid (show Calls Try.prog 23 #[.pointer (some ⟨w.heap.size + 1, 0, none⟩), .string a] wr fun x w' => x = .returned (.tuple #[.string T.toL[j].2.1, .bool true]) ∧ Below wr.heap.size wr w' from by
                have := NX.out wr a hbx.out
                rw [nextV_at hj.out HRS.out hlt he] at this
                exact this)
              have b0 := emp_ne he
              have bk : (T.toL[j].2.1.toList == T.toL[j].2.1.toList) = true := by simp
              generalize T.toL[j].2.1 = key at v0 v0' b0 SK NX2 bk
              clear he hcell HLN
              go_wp2_with (
                go_at_call 23
                refine NX2.out.mono ?_
                rintro e w5 ⟨rfl, hb5⟩
                have B5 := hid (below_on hbx.out hb5)
                have d3 := (B5.out.cell (p := ⟨S + 3, 0, none⟩) (World.block_lt_of_cell? _ _ c3)).trans c3
                have d0 := (B5.out.cell (World.block_lt_of_cell? _ _ v0)).trans v0
                clear hb5)
              go_roundw
              case rel => exact ⟨j + 1, k2 + 1, key, rfl, by go_num, by go_num, hk22, SK, B5⟩
              case measure => simp [intOf]; omega
          · have hje : j = T.toL.length := by have := hj.out.jl; omega
            subst hje
            obtain ⟨f1, f2⟩ := hj.out.fin HRS.out
            have NX2 := hid (show Calls Try.prog 23 #[.pointer (some ⟨w.heap.size + 1, 0, none⟩), .string a] wr fun x w' => x = .returned (.tuple #[.string ⟨#[]⟩, .bool false]) ∧ Below wr.heap.size wr w' from by
              have := NX.out wr a hbx.out
              rw [f1] at this
              exact this)
            have HBW := hid OE3.out.ti.bl
            clear f1 hlt HLN HL3
            generalize T.toL.length = N at c1 c1' c3 c3' f2 hN ⊢
            by_cases hkn : k2 = N
            · have b1 : ((k2 : Int) == (N : Int)) = true := by rw [beq_iff_eq]; omega
              clear f2 hkn
              go_wp2_with (first
                | (go_at_call 23
                   refine NX2.out.mono ?_
                   rintro e w5 ⟨rfl, hb5⟩
                   have B5 := hid (below_on hbx.out hb5)
                   have d1 := (B5.out.cell (p := ⟨S + 1, 0, none⟩) (World.block_lt_of_cell? _ _ c1)).trans c1
                   clear hb5)
                | (go_at_call 11
                   refine (KN.out w5).mono ?_
                   rintro e w6 ⟨rfl, hb6⟩
                   have B6 := hid (below_on B5.out hb6)
                   clear hb6))
              go_ret
              exact ⟨rfl, below_on HBW.out B6.out⟩
            · have b1 : ((k2 : Int) == (N : Int)) = false := by rw [beq_eq_false_iff_ne]; omega
              have b2 : ((k2 : Int) == (N : Int) - 1) = true := by rw [beq_iff_eq]; omega
              clear f2 hkn
              go_wp2_with (first
                | (go_at_call 23
                   refine NX2.out.mono ?_
                   rintro e w5 ⟨rfl, hb5⟩
                   have B5 := hid (below_on hbx.out hb5)
                   have d1 := (B5.out.cell (p := ⟨S + 1, 0, none⟩) (World.block_lt_of_cell? _ _ c1)).trans c1
                   clear hb5)
                | (go_at_call 11
                   refine (KN.out w5).mono ?_
                   rintro e w6 ⟨rfl, hb6⟩
                   have B6 := hid (below_on B5.out hb6)
                   clear hb6))
              go_ret
              exact ⟨rfl, below_on HBW.out B6.out⟩


end Go.Proofs.Ytkalppcekmlgbaa
