import Derived.Test.YthjggbcppgbdoaaK28
import Derived.Test.YthjggbcppgbdoaaRows
import Derived.Test.YthjggbcppgbdoaaK24
import Derived.ProofKit
import Derived.OpenShut
import Derived.ShutString
import Derived.ChangeOld
namespace Go.Proofs.Ythjggbcppgbdoaa
open Go.RowKit

/-- What stands behind the first row of pairs. -/
structure Og (w : World) (p bi bk bv g1 g2 gp ge : Nat) (frm to : ByteArray) (V : List Pl) (F : Nat → Prop) (ka va : Value) (T : List (ByteArray × Int)) (W : World) : Prop where
  hs : Hs w p V false 60 F W
  rg : RgB W g1 g2 gp ge (some ⟨p, 0, none⟩) frm to
  i : W.heap[bi]? = some (.cells #[itS g1 g2] 46 (0, 0))
  k : W.heap[bk]? = some (.cells #[ka] 65 (0, 0))
  v : W.heap[bv]? = some (.cells #[va] 66 (0, 0))
  kr : Rf W 1 ka T.length (T.map (fun e => .string e.1))
  vr : Rf W 1 va T.length (T.map (fun e => .int .i64 e.2))
  ro : ∀ j, ka.ownBlock = some j ∨ va.ownBlock = some j → j < W.heap.size
  eq : T = kx false (rl false frm to V)
  ln : T.length ≤ 602

theorem Og.below {w : World} {p bi bk bv g1 g2 gp ge : Nat} {frm to : ByteArray} {V : List Pl} {F : Nat → Prop} {ka va : Value} {T : List (ByteArray × Int)} {W W' : World} (h : Og w p bi bk bv g1 g2 gp ge frm to V F ka va T W) (hb : Below W.heap.size W W') : Og w p bi bk bv g1 g2 gp ge frm to V F ka va T W' :=
  ⟨h.hs.below hb, ⟨hp_below h.rg.f hb (hp_lt h.rg.f), hp_below h.rg.s hb (hp_lt h.rg.s), hp_below h.rg.p hb (hp_lt h.rg.p), hp_below h.rg.e hb (hp_lt h.rg.e)⟩, hp_below h.i hb (hp_lt h.i), hp_below h.k hb (hp_lt h.k), hp_below h.v hb (hp_lt h.v), h.kr.below hb, h.vr.below hb, fun j hj => Nat.lt_of_lt_of_le (h.ro j hj) hb.size, h.eq, h.ln⟩

set_option maxRecDepth 100000 in
set_option maxHeartbeats 16000000 in
theorem order_any (sv : Value) (ys : List Sp) (frm to : ByteArray) (w : World) (hr : Rf w 6 sv ys.length (ys.flatMap Sp.cl)) (hys : ∀ y ∈ ys, y.key.size ≤ 140737488355328 ∧ y.to.size ≤ 140737488355328 ∧ y.other.size ≤ 140737488355328) (hfr : frm.size ≤ 140737488355328) (hto : to.size ≤ 140737488355328) :
    Calls Try.prog 8 #[sv, .string frm, .string to] w fun x w' => x = .returned (.bool true) ∧ Below w.heap.size w w' := by
  obtain ⟨ao, cap, e, -, -⟩ := hr.shape
  have KN := hid known_any
  have MU := hid (much_or sv ys w hr hys)
  have HR := hid hr
  have HFT := hid (And.intro hfr hto)
  subst e
  clear hr hys hfr hto
  by_cases h60 : 60 < ys.length
  · as_aux_lemma =>
    have b60 : decide ((60 : Int) < ys.length) = true := by simp; omega
    clear h60
    go_enter Try.func8, Try.ntmps8
    go_wp2_with (first
      | (go_at_call 9
         refine MU.out.mono ?_
         rintro e w1 (⟨rfl, hb⟩ | ⟨rfl, hsm, hb⟩)
         all_goals
           have B1 := hid hb
           clear hb MU)
      | (go_at_call 10
         refine (KN.out _).mono ?_
         rintro e wk ⟨rfl, hbk⟩
         have BK := hid (below_on B1.out hbk)
         clear hbk))
    all_goals
      go_ret
      exact ⟨rfl, BK.out⟩
  have b60 : decide ((60 : Int) < ys.length) = false := by simp; omega
  have H60 := hid (show ys.length ≤ 60 by omega)
  clear h60
  go_enter Try.func8, Try.ntmps8
  go_upto_region 3 with (first
    | (go_at_call 9
       refine MU.out.mono ?_
       rintro e w1 (⟨rfl, hb⟩ | ⟨rfl, hsm, hb⟩)
       all_goals first
         | (have SM := hid hsm
            have B1 := hid hb
            clear hsm hb MU)
         | (have B1 := hid hb
            clear hb MU))
    | (go_at_call 10
       refine (KN.out _).mono ?_
       rintro e wk ⟨rfl, hbk⟩
       have BK := hid (below_on B1.out hbk)
       clear hbk))
  · go_ret
    exact ⟨rfl, BK.out⟩
  clear b60
  have NW := hid (vnew w1)
  go_upto_region 6 with (
    go_at_call 11
    refine NW.out.mono ?_
    rintro e w2 ⟨rfl, hz, hb, hsz⟩
    have H2 := hid (show Hs w w1.heap.size [] false 0 (fun j => j = w1.heap.size) w2 from ⟨hz, fun j hj => by subst hj; omega, fun j hj => by subst hj; exact B1.out.size, ⟨by simp, fun e he => (by cases he)⟩, below_on B1.out hb⟩)
    clear hz hb hsz NW)
  clear B1
  generalize w1.heap.size = p at H2 ⊢
  go_wp2_with fail
  go_loopw [8] (fun i wr => ∃ (k : Nat) (V : List Pl) (F : Nat → Prop), i = .int .i64 k ∧ k ≤ ys.length ∧ Hid (Hs w p V false k F wr ∧ ∀ e ∈ V, e.1 ∈ ys.map (fun y => y.key))) (fun i _ => ys.length - (intOf i).toNat)
  case atStart => exact ⟨0, _, _, rfl, Nat.zero_le _, hid ⟨H2.out, fun e he => (by cases he)⟩⟩
  case round =>
    obtain ⟨k, V, F, rfl, hk, hp⟩ := hrel
    have hks := H60.out
    by_cases h1 : k < ys.length
    · as_aux_lemma =>
      obtain ⟨g, off, cap', e, -, -, hcell⟩ := (HR.out.below hp.out.1.be).lits (by omega) (by omega)
      injection e with e1 _ e3
      subst e1 e3
      obtain ⟨x, hxe⟩ : ∃ x, ys[k] = x := ⟨_, rfl⟩
      have hxk := SM.out.k x (by rw [← hxe]; exact List.getElem_mem h1)
      have hfl : ∀ c u, c < 6 → x.cl[c]? = some u → (ys.flatMap Sp.cl)[k * 6 + c]? = some u := fun c u hc hu => by
        rw [flat_get Sp.cl 6 Sp.len ys k c hc, List.getElem?_eq_getElem h1, hxe]
        exact hu
      have v0 := hcell _ _ (hfl 0 _ (by omega) rfl)
      have v1 := hcell _ _ (hfl 1 _ (by omega) rfl)
      have v2 := hcell _ _ (hfl 2 _ (by omega) rfl)
      have v3 := hcell _ _ (hfl 3 _ (by omega) rfl)
      have v4 := hcell _ _ (hfl 4 _ (by omega) rfl)
      have v5 := hcell _ _ (hfl 5 _ (by omega) rfl)
      simp only [Nat.add_zero, ← Nat.add_assoc] at v0 v1 v2 v3 v4 v5
      have hxm : x.key ∈ ys.map (fun y => y.key) := List.mem_map.2 ⟨x, by rw [← hxe]; exact List.getElem_mem h1, rfl⟩
      obtain ⟨xk, xv, xn, key, to_, oth⟩ := x
      simp only at hxk hxm v0 v1 v2 v3 v4 v5
      have h1k : (k : Int) < ys.length := by omega
      have hkb : k + 1 ≤ 200 := by omega
      have T1 := hid (hs_write (x := ⟨xk, xv, xn, key, to_, oth⟩) hp.out.1 (by omega) hxk.1)
      have KY := hid (wr_keys (x := ⟨xk, xv, xn, key, to_, oth⟩) (m := false) (P := fun q => q ∈ ys.map (fun y => y.key)) hp.out.2 hxm)
      clear hcell hfl hxe hxk hks hxm
      go_wp2_with (
        go_at_call 28
        refine T1.out.mono ?_
        rintro e w3 ⟨rfl, ⟨F', h3, -⟩, -⟩
        have H3 := hid h3
        clear h3 T1)
      go_roundw
      case rel => exact ⟨k + 1, _, _, by go_num, by omega, hid ⟨H3.out, KY.out⟩⟩
      case measure => simp [intOf]; omega
    · have h1k : (ys.length : Int) ≤ k := by omega
      have HSV := hid (hp.out.1.mono (show k ≤ 60 by omega))
      have KYV := hid hp.out.2
      have RG := hid (fun W => srange_any (some ⟨p, 0, none⟩) frm to W (by have := HFT.out; omega) (by have := HFT.out; omega))
      have KM := hid (kx_mem (frm := frm) (to := to) HSV.out.z.sorted)
      have KS := hid (kx_sorted (frm := frm) (to := to) HSV.out.z.sorted)
      have CN := hid (cnt_range (frm := frm) (to := to) HSV.out.z.sorted KYV.out)
      clear hp hk hks h1 H2
      go_upto_region 12 with (first
        | (go_at_call 19
           refine (RG.out wr).mono ?_
           rintro e w2 ⟨g1, g2, gp, ge, rfl, hs, hb, -, -, -, -⟩
           have H2 := hid ((HSV.out.below hb).below (below_new w2 (.cells #[itS g1 g2] 46)))
           have R2 := hid (show RgB (w2.alloc (.cells #[itS g1 g2] 46)) g1 g2 gp ge (some ⟨p, 0, none⟩) frm to from ⟨hp_alloc hs.f _, hp_alloc hs.s _, hp_alloc hs.p _, hp_alloc hs.e _⟩)
           have I2 := hid (hp_new w2 (.cells #[itS g1 g2] 46))
           have PP := hid (pairs_range H2.out.z H2.out.fl R2.out (by have := H2.out.bd.n; omega) (fun e he => by have := H2.out.bd.k e he; omega) (by have := HFT.out; omega) (by have := HFT.out; omega))
           have c2 := cells1 I2.out
           clear hb hs RG)
        | (go_at_call 29
           refine PP.out.mono ?_
           rintro e w4 ⟨ka, va, rfl, hk, hv, ho, hb⟩
           obtain ⟨q1, q2, qb⟩ := two w4 (.cells #[ka] 65) (.cells #[va] 66)
           have G5 := hid (show Og w p w2.heap.size w4.heap.size (w4.heap.size + 1) g1 g2 gp ge frm to V F ka va (kx false (rl false frm to V)) ((w4.alloc (.cells #[ka] 65)).alloc (.cells #[va] 66)) from
             ⟨(H2.out.below hb).below qb, ⟨hp_below (hp_below R2.out.f hb (hp_lt R2.out.f)) qb (Nat.lt_of_lt_of_le (hp_lt R2.out.f) hb.size), hp_below (hp_below R2.out.s hb (hp_lt R2.out.s)) qb (Nat.lt_of_lt_of_le (hp_lt R2.out.s) hb.size), hp_below (hp_below R2.out.p hb (hp_lt R2.out.p)) qb (Nat.lt_of_lt_of_le (hp_lt R2.out.p) hb.size), hp_below (hp_below R2.out.e hb (hp_lt R2.out.e)) qb (Nat.lt_of_lt_of_le (hp_lt R2.out.e) hb.size)⟩, hp_below (hp_below I2.out hb (hp_lt I2.out)) qb (Nat.lt_of_lt_of_le (hp_lt I2.out) hb.size), q1, q2, hk.below qb, hv.below qb, fun j hj => Nat.lt_of_lt_of_le (ho j hj).2 qb.size, rfl, by have a := kx_len false frm to V; have b := H2.out.bd.n; omega⟩)
           obtain ⟨aoa, capa, e1, -, -⟩ := hk.shape
           obtain ⟨aob, capb, e2, -, -⟩ := hv.shape
           generalize hTT : kx false (rl false frm to V) = T at G5 KM KS CN e1 e2
           subst e1 e2
           have ET := hid hTT
           clear hk hv ho hb q1 q2 qb PP H2 R2 I2 c2 hTT))
      generalize (w4.alloc (.cells #[.slice aoa T.length capa] 65)).alloc (.cells #[.slice aob T.length capb] 66) = W5 at G5 ⊢
      generalize w4.heap.size + 1 = bv at G5 ⊢
      generalize w4.heap.size = bk at G5 ⊢
      generalize w2.heap.size = bi at G5 ⊢
      go_wp2_with fail
      go_loopw [12] (fun i wr => ∃ k : Nat, i = .int .i64 k ∧ k ≤ T.length ∧ Hid (Below W5.heap.size W5 wr)) (fun i _ => T.length - (intOf i).toNat)
      case atStart => exact ⟨0, rfl, Nat.zero_le _, hid (Below.refl _ _)⟩
      case round =>
        clear h1k
        obtain ⟨k, rfl, hk, hg⟩ := hrel
        have GG := hid (G5.out.below hg.out)
        have c0 := cells1 GG.out.k
        have c1 := cells1 GG.out.v
        by_cases h1 : k < T.length
        · as_aux_lemma =>
          have h1k : (k : Int) < T.length := by omega
          obtain ⟨ga, oa, qa, e, -, -, za⟩ := GG.out.kr.lits (by omega) (by omega)
          injection e with e1 _ e3
          subst e1 e3
          obtain ⟨gb, ob, qb, e, -, -, zb⟩ := GG.out.vr.lits (by omega) (by omega)
          injection e with e1 _ e3
          subst e1 e3
          have u1 := za k (.string T[k].1) (by simp [h1])
          have u2 := zb k (.int .i64 T[k].2) (by simp [h1])
          obtain ⟨m1, m2, m3⟩ := KM.out T[k] (List.getElem_mem h1)
          have hkb : k + 1 ≤ 1000000 := by have := GG.out.ln; omega
          have GT := hid (show Calls Try.prog 21 #[.pointer (some ⟨p, 0, none⟩), .string T[k].1] wr fun x w' => x = .returned (.tuple #[.int .i64 T[k].2, .bool true]) ∧ Below wr.heap.size wr w' from (vget p T[k].1 V false F wr GG.out.hs.z).mono (by
            rintro x w' ⟨rfl, hb'⟩
            rw [m1]
            exact ⟨rfl, hb'⟩))
          have CL := hid (show ∀ W, Below wr.heap.size wr W → W.cell? ⟨bk, 0, none⟩ = some (.slice (some ⟨ga, oa, none⟩) T.length capa) ∧ W.cell? ⟨bv, 0, none⟩ = some (.slice (some ⟨gb, ob, none⟩) T.length capb) ∧ W.cell? ⟨ga, oa + k, none⟩ = some (.string T[k].1) ∧ W.cell? ⟨gb, ob + k, none⟩ = some (.int .i64 T[k].2) from fun W hb => ⟨cells1 (hp_below GG.out.k hb (hp_lt GG.out.k)), cells1 (hp_below GG.out.v hb (hp_lt GG.out.v)), (hb.cell (p := ⟨ga, oa + k, none⟩) (World.block_lt_of_cell? _ _ u1)).trans u1, (hb.cell (p := ⟨gb, ob + k, none⟩) (World.block_lt_of_cell? _ _ u2)).trans u2⟩)
          have b2 : Op.bytesLess T[k].1.toList frm.toList = false := m2
          have b4 : (T[k].2 != T[k].2) = false := by simp
          have NC := hid (show ∀ W, Below wr.heap.size wr W → ∀ j (hj : j < T.length), W.cell? ⟨ga, oa + j, none⟩ = some (.string T[j].1) from fun W hb j hj => by
            have u := za j (.string T[j].1) (by simp [hj])
            exact (hb.cell (p := ⟨ga, oa + j, none⟩) (World.block_lt_of_cell? _ _ u)).trans u)
          have m3' : ((to.toList == []) = true ∧ (to.toList != []) = false) ∨ ((to.toList == []) = false ∧ (to.toList != []) = true ∧ (!Op.bytesLess T[k].1.toList to.toList && !(T[k].1.toList == to.toList)) = false) := by
            cases h0 : (to.toList == [])
            · refine .inr ⟨rfl, ?_, ?_⟩
              · simpa using h0
              · rw [gtr_eq]
                rcases m3 with m3 | m3
                · rw [h0] at m3; cases m3
                · exact m3
            · refine .inl ⟨rfl, ?_⟩
              simpa using h0
          have HGG := GG
          clear GG m1 m2 m3 za zb c1
          cases k with
          | zero =>
            simp only [Nat.add_zero] at u1 u2 CL
            generalize T[0].1 = ki at u1 b2 m3' GT CL
            generalize T[0].2 = vi at u2 b4 GT CL
            clear NC
            rcases m3' with ⟨b0, b1⟩ | ⟨b0, b1, b3⟩
            all_goals
              go_upto_region 16 with (
                go_at_call 21
                refine GT.out.mono ?_
                rintro e w2 ⟨rfl, hb⟩
                have B2 := hid hb
                clear u1 u2 c0
                obtain ⟨c0, c1, u1, u2⟩ := CL.out w2 hb
                clear hb GT CL)
              go_quiet (fail)
              go_wp2_with fail
              go_roundw
              case rel => exact ⟨1, by go_num, by omega, hid (blw_drewN (below_on hg.out B2.out))⟩
              case measure => simp [intOf]; omega
          | succ j =>
            have hj : j < T.length := by omega
            have b6 : (Op.bytesLess T[j + 1].1.toList T[j].1.toList || (T[j + 1].1.toList == T[j].1.toList)) = false := by
              rw [leq_eq, List.pairwise_iff_getElem.1 KS.out j (j + 1) hj h1 (by omega)]
              rfl
            have hwj : IntKind.i64.wrap ((j : Int) + 1 - 1) = j := by rw [IntKind.wrap_i64]; omega
            have NJ := hid (fun W hb => NC.out W hb j hj)
            have hjk : (j : Int) < T.length := by omega
            generalize T[j + 1].1 = ki at u1 b2 m3' GT CL b6
            generalize T[j + 1].2 = vi at u2 b4 GT CL
            generalize T[j].1 = kp at NJ b6
            clear NC
            rcases m3' with ⟨b0, b1⟩ | ⟨b0, b1, b3⟩
            all_goals
              go_upto_region 16 with (
                go_at_call 21
                refine GT.out.mono ?_
                rintro e w2 ⟨rfl, hb⟩
                have B2 := hid hb
                have u3 := NJ.out w2 hb
                clear u1 u2 c0
                obtain ⟨c0, c1, u1, u2⟩ := CL.out w2 hb
                clear hb GT CL NJ)
              go_quiet (fail)
              go_wp2_with fail
              go_roundw
              case rel => exact ⟨j + 1 + 1, by go_num, by omega, hid (blw_drewN (below_on hg.out B2.out))⟩
              case measure => simp [intOf]; omega
        · have h1k : (T.length : Int) ≤ k := by omega
          clear h1 hk c1
          clear KM KS
          have hdk : decide (k < T.length) = false := by simp; omega
          have GW := hid (show ∀ W, Below W5.heap.size W5 W → ∀ key, Calls Try.prog 21 #[.pointer (some ⟨p, 0, none⟩), .string key] W fun x w' => x = .returned (.tuple #[.int .i64 (rgetV key V).1, .bool (rgetV key V).2]) ∧ Below W.heap.size W w' from fun W hb key => vget p key V false F W (G5.out.hs.z.below hb))
          have CK := hid (show ∀ W, Below W5.heap.size W5 W → ∀ g off cap', Value.slice ao ys.length cap = .slice (some ⟨g, off, none⟩) ys.length cap' → ∀ j (hj : j < ys.length), W.cell? ⟨g, off + j * 6 + 3, none⟩ = some (.string ys[j].key) from fun W hb g off cap' e j hj => by
            obtain ⟨g2, off2, cap2, e2, -, -, hcell⟩ := (HR.out.below (below_on G5.out.hs.be hb)).lits (by omega) (by omega)
            rw [e] at e2
            injection e2 with q1 _ _
            injection q1 with q1
            injection q1 with q2 q3 _
            subst q2 q3
            have := hcell (j * 6 + 3) (.string ys[j].key) (by rw [flat_get Sp.cl 6 Sp.len ys j 3 (by omega), List.getElem?_eq_getElem hj]; rfl)
            rw [← Nat.add_assoc] at this
            exact this)
          generalize hks : ys.map (fun y => y.key) = ks at CN KYV
          have HKS := hid hks
          generalize hcp : cP frm to V = P at CN
          have HCP := hid hcp
          clear hks hcp
          go_upto_region 19 with fail
          go_wp2_with fail
          go_loopw [15, 16] (fun n i wr => ∃ k : Nat, n = .int .i64 (cntN P ks k : Nat) ∧ i = .int .i64 k ∧ k ≤ ys.length ∧ Hid (Below W5.heap.size W5 wr)) (fun _ i _ => ys.length - (intOf i).toNat)
          case atStart => exact ⟨0, rfl, rfl, Nat.zero_le _, hg⟩
          case round =>
            clear h1k hg
            obtain ⟨k, rfl, rfl, hk, hb3⟩ := hrel
            have h60 := H60.out
            by_cases h1 : k < ys.length
            · as_aux_lemma =>
              have h1k : (k : Int) < ys.length := by omega
              obtain ⟨g, off, cap', e, -, -, -⟩ := HR.out.lits (by omega) (by omega)
              have CKK := hid (fun W hb => CK.out W hb g off cap' e)
              injection e with e1 _ e3
              subst e1 e3
              clear CK HR
              have hkk : ks[k]?.getD ⟨#[]⟩ = ys[k].key := by rw [← HKS.out]; simp [h1]
              have HKK := hid hkk
              have HTK := hid (show ∀ q, q < k → ∀ hq : q < ys.length, (ks.take (q + 1)).any (fun y => decide (y = ys[k].key)) = ((ks.take q).any (fun y => decide (y = ys[k].key)) || decide (ys[q].key = ys[k].key)) from fun q _ hq => by
                have e1 : ks[q]? = some ys[q].key := by rw [← HKS.out]; simp [hq]
                rw [List.take_add_one, List.any_append, e1]
                simp)
              have hkb : k + 1 ≤ 60 := by omega
              have hcn := cnt_le P ks k
              clear hkk
              go_upto_region 23 with fail
              go_wp2_with fail
              go_loopw [17, 18] (fun s j wr => ∃ q : Nat, s = .bool ((ks.take q).any (fun y => decide (y = ys[k].key))) ∧ j = .int .i64 q ∧ q ≤ k ∧ Hid (Below W5.heap.size W5 wr)) (fun _ j _ => k - (intOf j).toNat)
              case atStart => exact ⟨0, by simp, rfl, Nat.zero_le _, hb3⟩
              case round =>
                clear hb3
                obtain ⟨q, rfl, rfl, hq, hb4⟩ := hrel
                have u1 := CKK.out wr hb4.out k h1
                by_cases h2 : q < k
                · as_aux_lemma =>
                  have hql : q < ys.length := by omega
                  have h2k : (q : Int) < k := by omega
                  have h2l : (q : Int) < ys.length := by omega
                  have hqb : q + 1 ≤ 60 := by omega
                  have u2 := CKK.out wr hb4.out q hql
                  have E := hid (HTK.out q h2 hql)
                  clear CKK HTK HKK
                  generalize ys[k].key = kk at u1 E
                  generalize ys[q].key = kq at u2 E
                  cases hsn : (ks.take q).any (fun y => decide (y = kk))
                  · by_cases heq : kq = kk
                    · have b1 : (kq.toList == kk.toList) = true := by simp [heq]
                      have E2 := hid (show (ks.take (q + 1)).any (fun y => decide (y = kk)) = true by rw [E.out, hsn]; simp [heq])
                      clear heq hsn E
                      go_wp2_with fail
                      go_quiet (fail)
                      go_wp2_with fail
                      go_roundw
                      case rel => exact ⟨q + 1, by rw [E2.out], by go_num, by omega, hid (blw_drewN hb4.out)⟩
                      case measure => simp [intOf]; omega
                    · have b1 : (kq.toList == kk.toList) = false := by
                        cases h : (kq.toList == kk.toList)
                        · rfl
                        · exact absurd (keq_iff.1 h) heq
                      have E2 := hid (show (ks.take (q + 1)).any (fun y => decide (y = kk)) = false by rw [E.out, hsn]; simp [heq])
                      clear heq hsn E
                      go_wp2_with fail
                      go_quiet (fail)
                      go_wp2_with fail
                      go_roundw
                      case rel => exact ⟨q + 1, by rw [E2.out], by go_num, by omega, hid (blw_drewN hb4.out)⟩
                      case measure => simp [intOf]; omega
                  · have E2 := hid (show (ks.take (q + 1)).any (fun y => decide (y = kk)) = true by rw [E.out, hsn]; simp)
                    clear hsn E
                    go_wp2_with fail
                    go_quiet (fail)
                    go_wp2_with fail
                    go_roundw
                    case rel => exact ⟨q + 1, by rw [E2.out], by go_num, by omega, hid (blw_drewN hb4.out)⟩
                    case measure => simp [intOf]; omega
                · as_aux_lemma =>
                  obtain rfl : q = k := by omega
                  have h2k : ¬ (q : Int) < q := by omega
                  have NBQ : nwB P ks q = (!(ks.take q).any (fun y => decide (y = ys[q].key)) && ((rgetV ys[q].key V).2 && !kl ys[q].key frm && ((to.toList == []) || !kl to ys[q].key))) := by
                    unfold nwB
                    rw [HKK.out, ← HCP.out]
                    rfl
                  have CS := cnt_succ P ks q
                  have GQ := hid (GW.out wr hb4.out ys[q].key)
                  have hw : IntKind.i64.wrap ((cntN P ks q : Nat) + 1 : Int) = (cntN P ks q : Nat) + 1 := by rw [IntKind.wrap_i64]; omega
                  generalize hkk : ys[q].key = kk at u1 NBQ GQ ⊢
                  have HKQ := hid hkk
                  clear hkk HTK HKK
                  generalize (ks.take q).any (fun y => decide (y = kk)) = sn at NBQ ⊢
                  generalize hgg : rgetV kk V = gg at NBQ GQ
                  obtain ⟨gy, gq⟩ := gg
                  simp only at NBQ GQ
                  generalize hcnt : cntN P ks q = n0 at CS hcn hw ⊢
                  clear hgg GW
                  cases sn
                  · cases gq
                    · have b0 : nwB P ks q = false := by rw [NBQ]; rfl
                      clear NBQ
                      have NBQ := b0
                      clear b0
                      have E := hid (show cntN P ks (q + 1) = n0 by rw [CS, NBQ]; simp)
                      clear CS NBQ hcnt hcn
                      go_wp2_with (
                        go_at_call 21
                        refine GQ.out.mono ?_
                        rintro e w8 ⟨rfl, hb⟩
                        have B8 := hid (below_on hb4.out hb)
                        clear u1
                        have u1 := CKK.out w8 B8.out q h1
                        rw [HKQ.out] at u1
                        clear hb GQ)
                      go_roundw
                      case rel => exact ⟨q + 1, by rw [E.out], by go_num, by omega, B8⟩
                      case measure => simp [intOf]; omega
                    · cases hf : kl kk frm
                      · have b1 : Op.bytesLess kk.toList frm.toList = false := hf
                        cases ht0 : (to.toList == [])
                        · cases hf2 : kl to kk
                          · have b3 : (Op.bytesLess kk.toList to.toList || (kk.toList == to.toList)) = true := by rw [leq_eq, hf2]; rfl
                            rw [hf, ht0, hf2] at NBQ
                            simp only [Bool.not_false, Bool.and_self, Bool.or_true] at NBQ
                            clear hf hf2
                            have E := hid (show cntN P ks (q + 1) = n0 + 1 by rw [CS, NBQ]; simp)
                            clear CS NBQ hcnt hcn
                            go_wp2_with (
                              go_at_call 21
                              refine GQ.out.mono ?_
                              rintro e w8 ⟨rfl, hb⟩
                              have B8 := hid (below_on hb4.out hb)
                              clear u1
                              have u1 := CKK.out w8 B8.out q h1
                              rw [HKQ.out] at u1
                              clear hb GQ)
                            go_roundw
                            case rel => exact ⟨q + 1, by rw [E.out]; go_num, by go_num, by omega, B8⟩
                            case measure => simp [intOf]; omega
                          · have b3 : (Op.bytesLess kk.toList to.toList || (kk.toList == to.toList)) = false := by rw [leq_eq, hf2]; rfl
                            rw [hf, ht0, hf2] at NBQ
                            simp only [Bool.not_false, Bool.not_true, Bool.and_self, Bool.or_false, Bool.and_false] at NBQ
                            clear hf hf2
                            have E := hid (show cntN P ks (q + 1) = n0 by rw [CS, NBQ]; simp)
                            clear CS NBQ hcnt hcn
                            go_wp2_with (
                              go_at_call 21
                              refine GQ.out.mono ?_
                              rintro e w8 ⟨rfl, hb⟩
                              have B8 := hid (below_on hb4.out hb)
                              clear u1
                              have u1 := CKK.out w8 B8.out q h1
                              rw [HKQ.out] at u1
                              clear hb GQ)
                            go_roundw
                            case rel => exact ⟨q + 1, by rw [E.out], by go_num, by omega, B8⟩
                            case measure => simp [intOf]; omega
                        · rw [hf, ht0] at NBQ
                          simp only [Bool.not_false, Bool.and_self, Bool.true_or] at NBQ
                          clear hf
                          have E := hid (show cntN P ks (q + 1) = n0 + 1 by rw [CS, NBQ]; simp)
                          clear CS NBQ hcnt hcn
                          go_wp2_with (
                            go_at_call 21
                            refine GQ.out.mono ?_
                            rintro e w8 ⟨rfl, hb⟩
                            have B8 := hid (below_on hb4.out hb)
                            clear u1
                            have u1 := CKK.out w8 B8.out q h1
                            rw [HKQ.out] at u1
                            clear hb GQ)
                          go_roundw
                          case rel => exact ⟨q + 1, by rw [E.out]; go_num, by go_num, by omega, B8⟩
                          case measure => simp [intOf]; omega
                      · have b1 : Op.bytesLess kk.toList frm.toList = true := hf
                        rw [hf] at NBQ
                        simp only [Bool.not_true, Bool.and_false, Bool.false_and] at NBQ
                        clear hf
                        have E := hid (show cntN P ks (q + 1) = n0 by rw [CS, NBQ]; simp)
                        clear CS NBQ hcnt hcn
                        go_wp2_with (
                          go_at_call 21
                          refine GQ.out.mono ?_
                          rintro e w8 ⟨rfl, hb⟩
                          have B8 := hid (below_on hb4.out hb)
                          clear u1
                          have u1 := CKK.out w8 B8.out q h1
                          rw [HKQ.out] at u1
                          clear hb GQ)
                        go_roundw
                        case rel => exact ⟨q + 1, by rw [E.out], by go_num, by omega, B8⟩
                        case measure => simp [intOf]; omega
                  · have b0 : nwB P ks q = false := by rw [NBQ]; rfl
                    clear NBQ
                    have NBQ := b0
                    clear b0
                    have E := hid (show cntN P ks (q + 1) = n0 by rw [CS, NBQ]; simp)
                    clear CS NBQ hcnt hcn
                    go_wp2_with (
                      go_at_call 21
                      refine GQ.out.mono ?_
                      rintro e w8 ⟨rfl, hb⟩
                      have B8 := hid (below_on hb4.out hb)
                      clear u1
                      have u1 := CKK.out w8 B8.out q h1
                      rw [HKQ.out] at u1
                      clear hb GQ)
                    go_roundw
                    case rel => exact ⟨q + 1, by rw [E.out], by go_num, by omega, B8⟩
                    case measure => simp [intOf]; omega
            · have h1k : (ys.length : Int) ≤ k := by omega
              obtain rfl : k = ys.length := by omega
              have hn : cntN P ks ys.length = T.length := by
                have := CN.out
                rw [← HKS.out, List.length_map] at this
                rw [← HKS.out]
                exact this
              rw [hn]
              have GG := hid (G5.out.below hb3.out)
              clear hn CN KYV GW CK HKS HCP
              go_upto_region 32 with fail
              obtain ⟨q1, q2, qb⟩ := two wr (.cells #[.bool true] 4) (.cells #[.int .i64 0] 3)
              have GH := hid (GG.out.below qb)
              have OXX := hid (show OX ((wr.alloc (.cells #[.bool true] 4)).alloc (.cells #[.int .i64 0] 3)) (wr.heap.size + 1) bi wr.heap.size bk bv g1 g2 (.slice aoa T.length capa) (.slice aob T.length capb) 0 from ⟨q2, GH.out.i, q1, GH.out.k, GH.out.v⟩)
              have BQ := hid (below_on GG.out.hs.be qb)
              have LP := hid (or_loop (frm0 := frm) (to := to) GH.out.hs.z GH.out.hs.fl GH.out.rg (by have := GH.out.hs.bd.n; omega) (fun e he => by have := GH.out.hs.bd.k e he; omega) (by have := HFT.out; omega) (by have := HFT.out; omega) OXX.out ⟨fun hf => by have := GG.out.hs.fl _ hf; omega, fun hf => by have := GG.out.hs.fl _ hf; omega⟩ (by rw [← GH.out.eq]; exact GH.out.kr) (by rw [← GH.out.eq]; exact GH.out.vr) (fun j hj => by have := GG.out.ro j hj; omega))
              rw [← GH.out.eq] at LP
              have c0 := cells1 OXX.out.i
              have NBR := hid (show w.heap.size ≤ wr.heap.size from GG.out.hs.be.size)
              clear q1 q2 qb GG G5 OXX HFT HR SM HSV
              generalize (wr.alloc (.cells #[.bool true] 4)).alloc (.cells #[.int .i64 0] 3) = W9 at GH BQ LP c0 ⊢
              have hmf : ∀ (fn : Fn) (first cap : Array Value) (w : World), (Instr.makeFunc fn first cap).run Try.prog w = .ok (.func fn first cap) w := fun _ _ _ _ => rfl
              go_wp2_with (first
                | (go_at_call 75
                   refine LP.out.mono ?_
                   rintro e w10 ⟨rfl, hx, hk10⟩
                   have B10 := hid (show Below w.heap.size w w10 from BQ.out.trans (hk10.below BQ.out.size (fun j hj e => by have := NBR.out; omega)))
                   have d0 := cells1 hx.r
                   have d1 := cells1 hx.o
                   have d2 := cells1 hx.k
                   clear hx hk10 LP c0)
                | (go_at_call 10
                   refine (KN.out w10).mono ?_
                   rintro e w11 ⟨rfl, hb⟩
                   have B11 := hid (below_on B10.out hb)
                   clear hb))
              go_ret
              exact ⟨rfl, B11.out⟩

end Go.Proofs.Ythjggbcppgbdoaa

namespace Go.Proofs.Ythjggbcppgbdoaa
open Go.ChangeShapes Go.WideShapes Go.ChangeAt Go.RowKit

theorem Try.own : ownKnob Try.prog.godebug = none := by kernel_rfl
theorem Try.laidOut : laidOutB Try.prog = true := by kernel_rfl

set_option maxRecDepth 100000 in
theorem zigzagOrder_lifted (os : Os) (started : os.Started) (H : Type) (enc : TypeId × Value → H) :
    ReturnsInHanded {} Try.checked os 8 .any (Rows.zigzagOrderSpec.pre6 enc Try.prog Try.f8 Rows.zigzagOrderRow.domain false) (Rows.zigzagOrderSpec.post enc Try.prog Try.f8 false true false false) := by
  refine returnsInHanded_of_change_sized (C := Try.checked) Try.own started (by kernel_rfl) Try.func8
    (ChangeSpec.witness6 (enc := enc) (C := Try.checked) false ⟨#[], #[.slice none 0 0, .string ⟨#[]⟩, .string ⟨#[]⟩], []⟩ 8 (by kernel_rfl) (by kernel_rfl) (by kernel_rfl) (by kernel_rfl)) ?_
  intro W base args ds gs before hval0 hW hcnd hsz0 _
  have hval : ∀ (j : Nat) t v, Try.f8.params[j]? = some t → args[j]? = some v → Value.okWide Try.prog W .any base t v := hval0
  have hsz : (DataW.weightsEach Try.prog (Try.f8.params.toList ++ Rows.zigzagOrderSpec.plain.varTypes Try.prog) (ds ++ gs)).all (· ≤ reachBytes) = true := hsz0
  have hW' := hW
  obtain ⟨p, q, hA0, hV, rfl, hfz, hnd⟩ := hW
  have hA : DataW.TrodAll enc Try.prog W 0 (fun _ => true) true Try.f8.params.toList args.toList ds p := hA0
  rw [Try.params8] at hA hval hsz
  obtain ⟨v0, vs0, d0, ds0, p0, q0, hargs0, rfl, rfl, h0, r0⟩ := trodAll_cons hA
  obtain ⟨v1, vs1, d1, ds1, p1, q1, hargs1, rfl, rfl, h1, r1⟩ := trodAll_cons r0
  obtain ⟨v2, vs2, d2, ds2, p2, q2, hargs2, rfl, rfl, h2, r2⟩ := trodAll_cons r1
  obtain ⟨rfl, rfl, rfl⟩ := trodAll_nil r2
  subst hargs2 hargs1
  obtain rfl : args = #[v0, v1, v2] := by cases args; simp_all
  obtain ⟨rfl, rfl⟩ := trodVars_none hV
  obtain ⟨a0, len0, cap0, rfl⟩ := okWide_slice Try.underlying22 (hval 0 22 v0 rfl rfl)
  obtain ⟨s1, rfl⟩ := okWide_string Try.underlying9 (hval 1 9 v1 rfl rfl)
  obtain ⟨s2, rfl⟩ := okWide_string Try.underlying9 (hval 2 9 v2 rfl rfl)
  have k0 := h0
  have lt0 : ∀ x ∈ p0, x.block < W.heap.size := by obtain ⟨m, hm⟩ := k0; exact DataW.trod_lt m _ _ _ hm
  have k1 := h1
  have lt1 : ∀ x ∈ p1, x.block < W.heap.size := by obtain ⟨m, hm⟩ := k1; exact DataW.trod_lt m _ _ _ hm
  have k2 := h2
  have lt2 : ∀ x ∈ p2, x.block < W.heap.size := by obtain ⟨m, hm⟩ := k2; exact DataW.trod_lt m _ _ _ hm
  obtain ⟨m0, hm0⟩ := h0
  obtain ⟨u0, ys0, e0, hs0, hy0⟩ := steps_of_trod hm0 (fun n hn => by
    have := List.all_eq_true.1 hsz _ (DataW.weights_mem_each (j := 0) (t := 22) (d := d0) rfl rfl n hn)
    simpa using this)
  have e0' : Value.slice a0 len0 cap0 = u0 := by injection (show [Value.slice a0 len0 cap0] = [u0] from e0)
  subst e0'
  obtain ⟨m1, hm1⟩ := h1
  obtain ⟨y1, hb1, e1⟩ := str_of_trod hm1 (fun n hn => by
    have := List.all_eq_true.1 hsz _ (DataW.weights_mem_each (j := 1) (t := 9) (d := d1) rfl rfl n hn)
    simpa using this)
  have e1' : s1 = y1 := by injection (show [Value.string s1] = [Value.string y1] from e1) with e; injection e
  subst e1'
  obtain ⟨m2, hm2⟩ := h2
  obtain ⟨y2, hb2, e2⟩ := str_of_trod hm2 (fun n hn => by
    have := List.all_eq_true.1 hsz _ (DataW.weights_mem_each (j := 2) (t := 9) (d := d2) rfl rfl n hn)
    simpa using this)
  have e2' : s2 = y2 := by injection (show [Value.string s2] = [Value.string y2] from e2) with e; injection e
  subst e2'
  clear hA0 hval0 hsz hsz0
  refine (order_any _ ys0 _ _ W hs0 hy0 hb1 hb2).mono fun e W' ⟨he, bel⟩ => ?_
  subst he
  exact ⟨_, rfl, _, _, _, [], _, [], hW', trodAll_mk1 (shut_bool Try.underlying4 _), (trodAll_cons_mk (Below.trod Try.laidOut (by kernel_rfl) (of_decide_eq_true (by kernel_rfl)) k0 bel lt0) (trodAll_cons_mk (Below.trod Try.laidOut (by kernel_rfl) (of_decide_eq_true (by kernel_rfl)) k1 bel lt1) (trodAll_cons_mk (Below.trod Try.laidOut (by kernel_rfl) (of_decide_eq_true (by kernel_rfl)) k2 bel lt2) trodAll_mk0))), rfl, bel.frame _, fun h => by cases h⟩

theorem zigzagOrder_holds : Rows.ZigzagOrderSaid :=
  OpenClaim.holds_of_wide 8 Try.f8 rfl rfl rfl rfl rfl rfl rfl ⟨rfl, rfl, rfl, rfl, rfl⟩ rfl rfl rfl rfl rfl (by kernel_rfl) Try.func8 (by kernel_rfl)
    (of_decide_eq_true (by kernel_rfl)) (by unfold Func.isWrapper; first | (rw [if_pos (by decide +kernel)]; kernel_rfl) | (rw [if_neg (by decide +kernel)]; exact ⟨rfl, rfl⟩))
    (fun os started H enc _ => zigzagOrder_lifted os started H enc)

#print axioms zigzagOrder_holds
end Go.Proofs.Ythjggbcppgbdoaa
