import Derived.Test.YtlmompdfombgeaaGreatK41
import Derived.ProofKit
import Derived.OpenShut
import Derived.ShutString
import Derived.ChangeOld
namespace Go.Proofs.YtlmompdfombgeaaGreat
open Go.RowKit Go.MapKept

/-- Two pairs, apart. -/
structure Duo (w0 w : World) (a x b y n m : Nat) (t : Wt) (R : Rt) (D : Dq) (t' : Wt) (R' : Rt) (D' : Dq) : Prop where
  A : PairS w0 w a x t R D n
  B : PairS w0 w b y t' R' D' m
  ap : ∀ q, Pft a x t R D q → ¬ Pft b y t' R' D' q
  bl : Below w0.heap.size w0 w

section
variable {w0 w w' : World} {a x b y n m : Nat} {t t' : Wt} {R R' : Rt} {D D' : Dq}

theorem Duo.swap (h : Duo w0 w a x b y n m t R D t' R' D') : Duo w0 w b y a x m n t' R' D' t R D := ⟨h.B, h.A, fun q e e2 => h.ap q e2 e, h.bl⟩

theorem Duo.below (h : Duo w0 w a x b y n m t R D t' R' D') (hb : Below w.heap.size w w') : Duo w0 w' a x b y n m t R D t' R' D' := ⟨h.A.below hb, h.B.below hb, h.ap, h.bl.trans (hb.mono h.bl.size)⟩

theorem Duo.mono {n' m' : Nat} (h : Duo w0 w a x b y n m t R D t' R' D') (h1 : n ≤ n') (h2 : m ≤ m') : Duo w0 w a x b y n' m' t R D t' R' D' := ⟨h.A.mono h1, h.B.mono h2, h.ap, h.bl⟩

theorem Duo.step {t2 : Wt} {R2 : Rt} {D2 : Dq} (h : Duo w0 w a x b y n m t R D t' R' D') (hp : PairS w0 w' a x t2 R2 D2 (n + 2)) (hk : Kept (Pft a x t R D) w w') (hf : ∀ k, Pft a x t2 R2 D2 k → Pft a x t R D k ∨ w.heap.size ≤ k) (hb : Below w0.heap.size w0 w') : Duo w0 w' a x b y (n + 2) m t2 R2 D2 t' R' D' :=
  ⟨hp, h.B.kept hk (fun k e e2 => h.ap k e2 e), fun q e e2 => by
    rcases hf q e with e3 | e3
    · exact h.ap q e3 e2
    · have := h.B.pr.lt q e2; omega, hb⟩

end

set_option maxRecDepth 100000 in
set_option maxHeartbeats 6400000 in
theorem two_no (room most : Int) (v u : Value) (xs ys : List Sp) (w : World) (h : Sps w v xs) (h2 : Sps w u ys) (hg : ¬ (0 ≤ room ∧ room ≤ 4194304 ∧ 0 ≤ most ∧ most ≤ 512)) : Calls Tryz.prog 5 #[.int .i64 room, .int .i64 most, v, u] w fun x w' => x = .returned (.bool true) ∧ Below w.heap.size w w' := by
  obtain ⟨ao, cap, rfl, hc, hcm⟩ := h.1.shape
  obtain ⟨ao2, cap2, rfl, hc2, hcm2⟩ := h2.1.shape
  have HS := hid h
  have HS2 := hid h2
  have HG := hid hg
  clear h h2 hg
  go_enter Tryz.func5, Tryz.ntmps5
  go_wp2_with (first
    | (go_at_call 13
       (with_reducible show Calls _ _ #[.slice ao xs.length cap] w _)
       refine (much_any (.slice ao xs.length cap) xs w HS.out).mono ?_
       rintro e w0 ⟨hb0, rr, rfl, hm⟩
       have H0 := hid (And.intro hb0 hm)
       clear hb0 hm)
    | (go_at_call 13
       refine (much_any (.slice ao2 ys.length cap2) ys w0 ⟨HS2.out.1.below H0.out.1, fun s hs => (HS2.out.2 s hs).below H0.out.1⟩).mono ?_
       rintro e w1 ⟨hb1, rr2, rfl, hm⟩
       have H1 := hid (And.intro (H0.out.1.trans (hb1.mono H0.out.1.size)) hm)
       clear hb1 hm)
    | (go_at_call 9
       refine (new_no room most _ HG.out).mono ?_
       rintro e w' ⟨rfl, e1⟩
       rw [e1]
       clear e1 w')
    | (go_at_call 10
       refine (rnew_no room most _ HG.out).mono ?_
       rintro e w' ⟨rfl, e1⟩
       rw [e1]
       clear e1 w')
    | (go_at_call 12
       refine (known_any _).mono ?_
       rintro e w2 ⟨rfl, hb2⟩
       have H2 := hid hb2
       clear hb2))
  all_goals
    go_ret
    first
    | exact ⟨rfl, H1.out.1.trans (H2.out.mono H1.out.1.size)⟩
    | exact ⟨rfl, H0.out.1.trans (H2.out.mono H0.out.1.size)⟩

set_option maxRecDepth 100000 in
set_option maxHeartbeats 12800000 in
theorem two_ok (room most : Int) (v u : Value) (xs ys : List Sp) (w : World) (h : Sps w v xs) (h2 : Sps w u ys) (hg : 0 ≤ room ∧ room ≤ 4194304 ∧ 0 ≤ most ∧ most ≤ 512) : Calls Tryz.prog 5 #[.int .i64 room, .int .i64 most, v, u] w fun x w' => x = .returned (.bool true) ∧ Below w.heap.size w w' := by
  obtain ⟨ao, cap, rfl, hc, hcm⟩ := h.1.shape
  obtain ⟨ao2, cap2, rfl, hc2, hcm2⟩ := h2.1.shape
  have HS := hid h
  have HS2 := hid h2
  have HG := hid hg
  obtain ⟨g0, g1, g2, g3⟩ := hg
  clear h h2
  go_enter Tryz.func5, Tryz.ntmps5
  go_wp2_with (first
    | (go_at_call 13
       (with_reducible show Calls _ _ #[.slice ao xs.length cap] w _)
       refine (much_any (.slice ao xs.length cap) xs w HS.out).mono ?_
       rintro e w0 ⟨hb0, rr, rfl, hm⟩
       have H0 := hid (And.intro hb0 hm)
       clear hb0 hm)
    | (go_at_call 13
       refine (much_any (.slice ao2 ys.length cap2) ys w0 ⟨HS2.out.1.below H0.out.1, fun s hs => (HS2.out.2 s hs).below H0.out.1⟩).mono ?_
       rintro e w1 ⟨hb1, rr2, rfl, hm⟩
       have H1 := hid (And.intro (H0.out.1.trans (hb1.mono H0.out.1.size)) hm)
       clear hb1 hm)
    | (go_at_call 12
       refine (known_any _).mono ?_
       rintro e w2 ⟨rfl, hb2⟩
       have H2 := hid hb2
       clear hb2)
    | (go_at_call 9
       (with_reducible show Calls _ _ _ w1 _)
       refine (new_ok room most w1 g0 g1 g2 g3).mono ?_
       rintro e w2 ⟨rfl, hz2, hb2⟩
       have H2 := hid (And.intro hz2 hb2)
       clear hz2 hb2)
    | (go_at_call 9
       (with_reducible show Calls _ _ _ w2 _)
       refine (new_ok room most w2 g0 g1 g2 g3).mono ?_
       rintro e w3 ⟨rfl, hz3, hb3⟩
       have H3 := hid (And.intro hz3 hb3)
       clear hz3 hb3)
    | (go_at_call 10
       (with_reducible show Calls _ _ _ w3 _)
       refine (rnew_ok room most w3 g0 g1 g2 g3).mono ?_
       rintro e w4 ⟨rfl, hz4, hb4⟩
       have H4 := hid (And.intro hz4 hb4)
       clear hz4 hb4)
    | (go_at_call 10
       (with_reducible show Calls _ _ _ w4 _)
       refine (rnew_ok room most w4 g0 g1 g2 g3).mono ?_
       rintro e w5 ⟨rfl, hz5, hb5⟩
       have H5 := hid (And.intro hz5 hb5)
       clear hz5 hb5))
  · go_ret
    exact ⟨rfl, H0.out.1.trans (H2.out.mono H0.out.1.size)⟩
  · go_ret
    exact ⟨rfl, H1.out.1.trans (H2.out.mono H1.out.1.size)⟩
  rename_i hrn hrr2 _ _
  have hrr : rr = false := by simpa using hrn
  clear hrn
  obtain ⟨hlen, hsmall⟩ := H0.out.2 hrr
  obtain ⟨hlen2, hsmall2⟩ := H1.out.2 hrr2
  have HM := hid hsmall
  have HM2 := hid hsmall2
  have HB := hid H1.out.1
  clear hsmall hsmall2 H1 H0
  subst hrr hrr2
  go_loopw [17] (fun i wr => ∃ (k : Nat) (t : Wt) (R : Rt) (D : Dq) (t' : Wt) (R' : Rt) (D' : Dq), k ≤ 200 ∧ i = .int .i64 k ∧ Hid (Duo w1 wr w1.heap.size w3.heap.size w2.heap.size w4.heap.size (2 * k) (2 * k) t R D t' R' D')) (fun i _ => 200 - (intOf i).toNat)
  case atStart =>
    have b25 := H3.out.2.trans ((H4.out.2.trans (H5.out.2.mono H4.out.2.size)).mono H3.out.2.size)
    have b35 := H4.out.2.trans (H5.out.2.mono H4.out.2.size)
    obtain ⟨t, R, hp, hq⟩ := new_pair (w0 := w1) HG.out H2.out.1 (H4.out.1.below H5.out.2) b25 H3.out.2.size (Nat.le_refl _)
    obtain ⟨t', R', hp', hq'⟩ := new_pair (w0 := w1) HG.out H3.out.1 H5.out.1 b35 H4.out.2.size H2.out.2.size
    refine ⟨0, t, R, newD room most, t', R', newD room most, Nat.zero_le _, by go_num, hid ⟨hp, hp', fun q e e2 => ?_, H2.out.2.trans (b25.mono H2.out.2.size)⟩⟩
    have z1 := hq q e
    have z2 := hq' q e2
    have z3 := hp_lt H4.out.1
    have z4 := H3.out.2.size
    omega
  case round =>
    obtain ⟨k, t, R, D, t', R', D', hk, rfl, HR⟩ := hrel
    by_cases hlta : k < xs.length
    · have i1 : (k : Int) < (xs.length : Int) := by omega
      obtain ⟨ba, oa, capa, e, -, -, hcell⟩ := Rf.elem (f := scs) (fun _ => rfl) (by omega) HS.out.1 k hlta
      injection e with e1 e2 e3
      subst e1 e3
      clear e2
      have hok := HS.out.2 xs[k] (List.getElem_mem hlta)
      have hsm := HM.out xs[k] (List.getElem_mem hlta)
      obtain ⟨x, hx⟩ : ∃ x, x = xs[k] := ⟨_, rfl⟩
      rw [← hx] at hok hsm hcell
      have hst := fun (W : World) (d r n : Nat) (t : Wt) (R : Rt) (D : Dq) (hp : PairS w1 W d r t R D n) (hb : Below w1.heap.size w1 W) (hn : n ≤ 80000) => (st_any x (hp.pre (hok.below HB.out) hb hsm hn)).mono fun e w' q => SPost.pair hp hb q
      obtain ⟨ka, nma, toa, dv, daa, na, sv, gsa, rv, gra, pna, fv, pka⟩ := x
      obtain ⟨-, -, -, -, -, hdt, -, hfs, -, hfr, -, hpk⟩ := hok
      obtain ⟨aa1, qa1, e1, -, -⟩ := hdt.shape
      obtain ⟨aa2, qa2, e2, -, -⟩ := hfs.shape
      obtain ⟨aa3, qa3, e3, -, -⟩ := hfr.shape
      obtain ⟨aa4, qa4, e4, -, -⟩ := hpk.1.shape
      dsimp only at e1 e2 e3 e4
      subst e1 e2 e3 e4
      have cc : ∀ (W : World), Below w1.heap.size w1 W → ∀ c u, (scs ⟨ka, nma, toa, .slice aa1 daa.length qa1, daa, na, .slice aa2 gsa.length qa2, gsa, .slice aa3 gra.length qa3, gra, pna, .slice aa4 pka.length qa4, pka⟩)[c]? = some u → W.cell? ⟨ba, oa + k * 9 + c, none⟩ = some u := fun W hb c u hu => ((HB.out.trans (hb.mono HB.out.size)).cell (World.block_lt_of_cell? _ _ (hcell c u hu))).trans (hcell c u hu)
      dsimp only at hst
      have HSTa := hid (And.intro hst cc)
      clear hcell cc hdt hfs hfr hpk hst hx hsm
      by_cases hltb : k < ys.length
      · have i2 : (k : Int) < (ys.length : Int) := by omega
        obtain ⟨bb, ob, capb, e, -, -, hcell⟩ := Rf.elem (f := scs) (fun _ => rfl) (by omega) HS2.out.1 k hltb
        injection e with e1 e2 e3
        subst e1 e3
        clear e2
        have hok := HS2.out.2 ys[k] (List.getElem_mem hltb)
        have hsm := HM2.out ys[k] (List.getElem_mem hltb)
        obtain ⟨x, hx⟩ : ∃ x, x = ys[k] := ⟨_, rfl⟩
        rw [← hx] at hok hsm hcell
        have hst := fun (W : World) (d r n : Nat) (t : Wt) (R : Rt) (D : Dq) (hp : PairS w1 W d r t R D n) (hb : Below w1.heap.size w1 W) (hn : n ≤ 80000) => (st_any x (hp.pre (hok.below HB.out) hb hsm hn)).mono fun e w' q => SPost.pair hp hb q
        obtain ⟨kb, nmb, tob, dv, dab, nb, sv, gsb, rv, grb, pnb, fv, pkb⟩ := x
        obtain ⟨-, -, -, -, -, hdt, -, hfs, -, hfr, -, hpk⟩ := hok
        obtain ⟨ab1, qb1, e1, -, -⟩ := hdt.shape
        obtain ⟨ab2, qb2, e2, -, -⟩ := hfs.shape
        obtain ⟨ab3, qb3, e3, -, -⟩ := hfr.shape
        obtain ⟨ab4, qb4, e4, -, -⟩ := hpk.1.shape
        dsimp only at e1 e2 e3 e4
        subst e1 e2 e3 e4
        have cc : ∀ (W : World), Below w1.heap.size w1 W → ∀ c u, (scs ⟨kb, nmb, tob, .slice ab1 dab.length qb1, dab, nb, .slice ab2 gsb.length qb2, gsb, .slice ab3 grb.length qb3, grb, pnb, .slice ab4 pkb.length qb4, pkb⟩)[c]? = some u → W.cell? ⟨bb, ob + k * 9 + c, none⟩ = some u := fun W hb c u hu => ((HB.out.trans (hb.mono HB.out.size)).cell (World.block_lt_of_cell? _ _ (hcell c u hu))).trans (hcell c u hu)
        dsimp only at hst
        have HSTb := hid (And.intro hst cc)
        clear hcell cc hdt hfs hfr hpk hst hx hsm
        have ac0 := (show (wr : World).cell? ⟨ba, oa + k * 9, none⟩ = some (.int .i64 ka) from HSTa.out.2 _ HR.out.bl 0 _ rfl)
        have ac1 := HSTa.out.2 wr HR.out.bl 1 _ rfl
        have ac2 := HSTa.out.2 wr HR.out.bl 2 _ rfl
        have ac3 := HSTa.out.2 wr HR.out.bl 3 _ rfl
        have ac4 := HSTa.out.2 wr HR.out.bl 4 _ rfl
        have ac5 := HSTa.out.2 wr HR.out.bl 5 _ rfl
        have ac6 := HSTa.out.2 wr HR.out.bl 6 _ rfl
        have ac7 := HSTa.out.2 wr HR.out.bl 7 _ rfl
        have ac8 := HSTa.out.2 wr HR.out.bl 8 _ rfl
        go_wp2_with (first
          | (go_at_call 14
             (with_reducible show Calls _ _ #[.pointer (some ⟨w1.heap.size, 0, none⟩), _, _] _ _)
             have hdu := HR.out.below (w' := _) (show Below wr.heap.size wr _ from (by first | exact Below.refl _ _ | exact (Below.refl _ _).drew))
             refine (HSTa.out.1 _ _ _ _ _ _ _ hdu.A hdu.bl (by omega)).mono ?_
             rintro e w6 ⟨rfl, t2, R2, D2, hp6, hk6, hf6, hb6⟩
             have H6 := hid (hdu.step hp6 hk6 hf6 hb6)
             clear hp6 hk6 hf6 hb6 hdu)
          | (go_at_call 11
             (with_reducible show Calls _ _ #[.pointer (some ⟨w1.heap.size, 0, none⟩), _] _ _)
             refine (alike_any H6.out.A.pr H6.out.A.wd (by omega) H6.out.A.tk).mono ?_
             rintro e w7 ⟨rfl, hb7⟩
             have H7 := hid (H6.out.below hb7)
             have bc0 := (show (w7 : World).cell? ⟨bb, ob + k * 9, none⟩ = some (.int .i64 kb) from HSTb.out.2 _ H7.out.bl 0 _ rfl)
             have bc1 := HSTb.out.2 w7 H7.out.bl 1 _ rfl
             have bc2 := HSTb.out.2 w7 H7.out.bl 2 _ rfl
             have bc3 := HSTb.out.2 w7 H7.out.bl 3 _ rfl
             have bc4 := HSTb.out.2 w7 H7.out.bl 4 _ rfl
             have bc5 := HSTb.out.2 w7 H7.out.bl 5 _ rfl
             have bc6 := HSTb.out.2 w7 H7.out.bl 6 _ rfl
             have bc7 := HSTb.out.2 w7 H7.out.bl 7 _ rfl
             have bc8 := HSTb.out.2 w7 H7.out.bl 8 _ rfl
             clear hb7)
          | (go_at_call 14
             have hdu := (H7.out.below (w' := _) (show Below w7.heap.size w7 _ from (by first | exact Below.refl _ _ | exact (Below.refl _ _).drew))).swap
             refine (HSTb.out.1 _ _ _ _ _ _ _ hdu.A hdu.bl (by omega)).mono ?_
             rintro e w8 ⟨rfl, t3, R3, D3, hp8, hk8, hf8, hb8⟩
             have H8 := hid (hdu.step hp8 hk8 hf8 hb8).swap
             clear hp8 hk8 hf8 hb8 hdu)
          | (go_at_call 11
             refine (alike_any H8.out.B.pr H8.out.B.wd (by omega) H8.out.B.tk).mono ?_
             rintro e w9 ⟨rfl, hb9⟩
             have H9 := hid (H8.out.below hb9)
             clear hb9))
        go_roundw
        case rel => exact ⟨k + 1, t2, R2, D2, t3, R3, D3, by omega, by go_num, hid (H9.out.mono (by omega) (by omega))⟩
        case measure => simp [intOf]; omega
      · have i2 : ¬ (k : Int) < (ys.length : Int) := by omega
        have ac0 := (show (wr : World).cell? ⟨ba, oa + k * 9, none⟩ = some (.int .i64 ka) from HSTa.out.2 _ HR.out.bl 0 _ rfl)
        have ac1 := HSTa.out.2 wr HR.out.bl 1 _ rfl
        have ac2 := HSTa.out.2 wr HR.out.bl 2 _ rfl
        have ac3 := HSTa.out.2 wr HR.out.bl 3 _ rfl
        have ac4 := HSTa.out.2 wr HR.out.bl 4 _ rfl
        have ac5 := HSTa.out.2 wr HR.out.bl 5 _ rfl
        have ac6 := HSTa.out.2 wr HR.out.bl 6 _ rfl
        have ac7 := HSTa.out.2 wr HR.out.bl 7 _ rfl
        have ac8 := HSTa.out.2 wr HR.out.bl 8 _ rfl
        go_wp2_with (first
          | (go_at_call 14
             have hdu := HR.out.below (w' := _) (show Below wr.heap.size wr _ from (by first | exact Below.refl _ _ | exact (Below.refl _ _).drew))
             refine (HSTa.out.1 _ _ _ _ _ _ _ hdu.A hdu.bl (by omega)).mono ?_
             rintro e w6 ⟨rfl, t2, R2, D2, hp6, hk6, hf6, hb6⟩
             have H6 := hid (hdu.step hp6 hk6 hf6 hb6)
             clear hp6 hk6 hf6 hb6 hdu)
          | (go_at_call 11
             refine (alike_any H6.out.A.pr H6.out.A.wd (by omega) H6.out.A.tk).mono ?_
             rintro e w7 ⟨rfl, hb7⟩
             have H7 := hid (H6.out.below hb7)
             clear hb7))
        go_roundw
        case rel => exact ⟨k + 1, t2, R2, D2, t', R', D', by omega, by go_num, hid (H7.out.mono (by omega) (by omega))⟩
        case measure => simp [intOf]; omega
    · have i1 : ¬ (k : Int) < (xs.length : Int) := by omega
      by_cases hltb : k < ys.length
      · have i2 : (k : Int) < (ys.length : Int) := by omega
        obtain ⟨bb, ob, capb, e, -, -, hcell⟩ := Rf.elem (f := scs) (fun _ => rfl) (by omega) HS2.out.1 k hltb
        injection e with e1 e2 e3
        subst e1 e3
        clear e2
        have hok := HS2.out.2 ys[k] (List.getElem_mem hltb)
        have hsm := HM2.out ys[k] (List.getElem_mem hltb)
        obtain ⟨x, hx⟩ : ∃ x, x = ys[k] := ⟨_, rfl⟩
        rw [← hx] at hok hsm hcell
        have hst := fun (W : World) (d r n : Nat) (t : Wt) (R : Rt) (D : Dq) (hp : PairS w1 W d r t R D n) (hb : Below w1.heap.size w1 W) (hn : n ≤ 80000) => (st_any x (hp.pre (hok.below HB.out) hb hsm hn)).mono fun e w' q => SPost.pair hp hb q
        obtain ⟨kb, nmb, tob, dv, dab, nb, sv, gsb, rv, grb, pnb, fv, pkb⟩ := x
        obtain ⟨-, -, -, -, -, hdt, -, hfs, -, hfr, -, hpk⟩ := hok
        obtain ⟨ab1, qb1, e1, -, -⟩ := hdt.shape
        obtain ⟨ab2, qb2, e2, -, -⟩ := hfs.shape
        obtain ⟨ab3, qb3, e3, -, -⟩ := hfr.shape
        obtain ⟨ab4, qb4, e4, -, -⟩ := hpk.1.shape
        dsimp only at e1 e2 e3 e4
        subst e1 e2 e3 e4
        have cc : ∀ (W : World), Below w1.heap.size w1 W → ∀ c u, (scs ⟨kb, nmb, tob, .slice ab1 dab.length qb1, dab, nb, .slice ab2 gsb.length qb2, gsb, .slice ab3 grb.length qb3, grb, pnb, .slice ab4 pkb.length qb4, pkb⟩)[c]? = some u → W.cell? ⟨bb, ob + k * 9 + c, none⟩ = some u := fun W hb c u hu => ((HB.out.trans (hb.mono HB.out.size)).cell (World.block_lt_of_cell? _ _ (hcell c u hu))).trans (hcell c u hu)
        dsimp only at hst
        have HSTb := hid (And.intro hst cc)
        clear hcell cc hdt hfs hfr hpk hst hx hsm
        have bc0 := (show (wr : World).cell? ⟨bb, ob + k * 9, none⟩ = some (.int .i64 kb) from HSTb.out.2 _ HR.out.bl 0 _ rfl)
        have bc1 := HSTb.out.2 wr HR.out.bl 1 _ rfl
        have bc2 := HSTb.out.2 wr HR.out.bl 2 _ rfl
        have bc3 := HSTb.out.2 wr HR.out.bl 3 _ rfl
        have bc4 := HSTb.out.2 wr HR.out.bl 4 _ rfl
        have bc5 := HSTb.out.2 wr HR.out.bl 5 _ rfl
        have bc6 := HSTb.out.2 wr HR.out.bl 6 _ rfl
        have bc7 := HSTb.out.2 wr HR.out.bl 7 _ rfl
        have bc8 := HSTb.out.2 wr HR.out.bl 8 _ rfl
        go_wp2_with (first
          | (go_at_call 14
             have hdu := (HR.out.below (w' := _) (show Below wr.heap.size wr _ from (by first | exact Below.refl _ _ | exact (Below.refl _ _).drew))).swap
             refine (HSTb.out.1 _ _ _ _ _ _ _ hdu.A hdu.bl (by omega)).mono ?_
             rintro e w8 ⟨rfl, t3, R3, D3, hp8, hk8, hf8, hb8⟩
             have H8 := hid (hdu.step hp8 hk8 hf8 hb8).swap
             clear hp8 hk8 hf8 hb8 hdu)
          | (go_at_call 11
             refine (alike_any H8.out.B.pr H8.out.B.wd (by omega) H8.out.B.tk).mono ?_
             rintro e w9 ⟨rfl, hb9⟩
             have H9 := hid (H8.out.below hb9)
             clear hb9))
        go_roundw
        case rel => exact ⟨k + 1, t, R, D, t3, R3, D3, by omega, by go_num, hid (H9.out.mono (by omega) (by omega))⟩
        case measure => simp [intOf]; omega
      · have i2 : ¬ (k : Int) < (ys.length : Int) := by omega
        go_wp2_with (first
          | (go_at_call 11
             refine (alike_any HR.out.A.pr HR.out.A.wd (by omega) HR.out.A.tk).mono ?_
             rintro e w6 ⟨rfl, hb6⟩
             have H6 := hid (HR.out.below hb6)
             clear hb6)
          | (go_at_call 12
             refine (known_any w6).mono ?_
             rintro e w7 ⟨rfl, hb7⟩
             have H7 := hid hb7
             clear hb7))
        go_ret
        have hbw : Below w.heap.size w w6 := HB.out.trans (H6.out.bl.mono HB.out.size)
        exact ⟨rfl, hbw.trans (H7.out.mono hbw.size)⟩

theorem two_any (room most : Int) (v u : Value) (xs ys : List Sp) (w : World) (h : Sps w v xs) (h2 : Sps w u ys) : Calls Tryz.prog 5 #[.int .i64 room, .int .i64 most, v, u] w fun x w' => x = .returned (.bool true) ∧ Below w.heap.size w w' := by
  by_cases hg : 0 ≤ room ∧ room ≤ 4194304 ∧ 0 ≤ most ∧ most ≤ 512
  · exact two_ok room most v u xs ys w h h2 hg
  · exact two_no room most v u xs ys w h h2 hg

end Go.Proofs.YtlmompdfombgeaaGreat

namespace Go.Proofs.YtlmompdfombgeaaGreat
open Go.ChangeShapes Go.WideShapes Go.ChangeAt Go.RowKit

theorem Tryz.own : ownKnob Tryz.prog.godebug = none := by kernel_rfl
theorem Tryz.laidOut : laidOutB Tryz.prog = true := by kernel_rfl

set_option maxRecDepth 100000 in
theorem two_lifted (os : Os) (started : os.Started) (H : Type) (enc : TypeId × Value → H) :
    ReturnsInHanded {} Tryz.checked os 5 .any (Rows.diskTwoSpec.pre6 enc Tryz.prog Tryz.f5 Rows.diskTwoRow.domain false) (Rows.diskTwoSpec.post enc Tryz.prog Tryz.f5 false true false false) := by
  refine returnsInHanded_of_change (C := Tryz.checked) Tryz.own started (by kernel_rfl) Tryz.func5
    (ChangeSpec.witness6 (enc := enc) (C := Tryz.checked) false ⟨#[], #[.int .i64 0, .int .i64 0, .slice none 0 0, .slice none 0 0], []⟩ 8 (by kernel_rfl) (by kernel_rfl) (by kernel_rfl) (by kernel_rfl)) ?_
  intro W base args ds gs before hval0 hW hcnd _
  have hval : ∀ (j : Nat) t v, Tryz.f5.params[j]? = some t → args[j]? = some v → Value.okWide Tryz.prog W .any base t v := hval0
  have hW' := hW
  obtain ⟨p, q, hA0, hV, rfl, hfz, hnd⟩ := hW
  have hA : DataW.TrodAll enc Tryz.prog W 0 (fun _ => true) true Tryz.f5.params.toList args.toList ds p := hA0
  rw [Tryz.params5] at hA hval
  obtain ⟨v0, vs0, d0, ds0, p0, q0, hargs, rfl, rfl, h0, r0⟩ := trodAll_cons hA
  obtain ⟨v1, vs1, d1, ds1, p1, q1, rfl, rfl, rfl, h1, r1⟩ := trodAll_cons r0
  obtain ⟨v2, vs2, d2, ds2, p2, q2, rfl, rfl, rfl, h2, r2⟩ := trodAll_cons r1
  obtain ⟨v3, vs3, d3, ds3, p3, q3, rfl, rfl, rfl, h3, r3⟩ := trodAll_cons r2
  obtain ⟨rfl, rfl, rfl⟩ := trodAll_nil r3
  obtain rfl : args = #[v0, v1, v2, v3] := by cases args; simp_all
  obtain ⟨rfl, rfl⟩ := trodVars_none hV
  obtain ⟨x0, rfl, rfl, rfl, w0⟩ := open_int Tryz.underlying3 (hval 0 3 v0 rfl rfl) h0
  obtain ⟨x1, rfl, rfl, rfl, w1⟩ := open_int Tryz.underlying3 (hval 1 3 v1 rfl rfl) h1
  obtain ⟨a0, len0, cap0, rfl⟩ := okWide_slice Tryz.underlying32 (hval 2 32 v2 rfl rfl)
  have k2 := h2
  have lt2 : ∀ x ∈ p2, x.block < W.heap.size := by obtain ⟨m, hm⟩ := k2; exact DataW.trod_lt m _ _ _ hm
  obtain ⟨a1, len1, cap1, rfl⟩ := okWide_slice Tryz.underlying32 (hval 3 32 v3 rfl rfl)
  have k3 := h3
  have lt3 : ∀ x ∈ p3, x.block < W.heap.size := by obtain ⟨m, hm⟩ := k3; exact DataW.trod_lt m _ _ _ hm
  obtain ⟨m, hm⟩ := h2
  obtain ⟨v, ys, e, hs⟩ := steps_of_trod hm
  have e' : Value.slice a0 len0 cap0 = v := by injection (show [Value.slice a0 len0 cap0] = [v] from e)
  subst e'
  obtain ⟨m', hm'⟩ := h3
  obtain ⟨v', ys', e2, hs'⟩ := steps_of_trod hm'
  have e3 : Value.slice a1 len1 cap1 = v' := by injection (show [Value.slice a1 len1 cap1] = [v'] from e2)
  subst e3
  clear hA0 hval0
  refine (two_any x0 x1 _ _ ys ys' W hs hs').mono fun e W' ⟨he, bel⟩ => ?_
  subst he
  exact ⟨_, rfl, _, _, _, [], _, [], hW', trodAll_mk1 (shut_bool Tryz.underlying4 _), (trodAll_cons_mk (shut_int Tryz.underlying3 w0) (trodAll_cons_mk (shut_int Tryz.underlying3 w1) (trodAll_cons_mk (Below.trod Tryz.laidOut (by kernel_rfl) (of_decide_eq_true (by kernel_rfl)) k2 bel lt2) (trodAll_cons_mk (Below.trod Tryz.laidOut (by kernel_rfl) (of_decide_eq_true (by kernel_rfl)) k3 bel lt3) trodAll_mk0)))), rfl, bel.frame _, fun h => by cases h⟩

theorem diskTwo_holds : Rows.DiskTwoSaid :=
  OpenClaim.holds_of_wide 5 Tryz.f5 rfl rfl rfl rfl rfl rfl rfl ⟨rfl, rfl, rfl, rfl, rfl⟩ rfl rfl rfl rfl rfl (by kernel_rfl) Tryz.func5 (by kernel_rfl)
    (of_decide_eq_true (by kernel_rfl)) (by unfold Func.isWrapper; first | (rw [if_pos (by decide +kernel)]; kernel_rfl) | (rw [if_neg (by decide +kernel)]; exact ⟨rfl, rfl⟩))
    (fun os started H enc _ => two_lifted os started H enc)

#print axioms diskTwo_holds
end Go.Proofs.YtlmompdfombgeaaGreat
