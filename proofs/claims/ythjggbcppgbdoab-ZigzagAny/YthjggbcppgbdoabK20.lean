import Derived.Test.YthjggbcppgbdoabK19
import Derived.Test.YthjggbcppgbdoabRows
import Derived.ProofKit
import Derived.OpenShut
import Derived.ShutString
import Derived.ChangeOld
namespace Go.Proofs.Ythjggbcppgbdoab
open Go.RowKit

theorem rem_nat (k n : Nat) : ((k : Int).tmod (n : Int)) = ((k % n : Nat) : Int) := by
  rw [Int.tmod_eq_emod_of_nonneg (by omega)]; rfl
theorem quo_nat (n : Nat) : ((n : Int).tdiv 2) = ((n / 2 : Nat) : Int) := by
  rw [Int.tdiv_eq_ediv_of_nonneg (by omega)]; rfl

set_option maxRecDepth 100000 in
set_option maxHeartbeats 16000000 in
/-- Where there is something to be put. -/
theorem any_main (M N D kb ko kc pb po pc : Nat) (ks : List ByteArray) (ps : List V.Pd) (w : World) (hM : Hid (M = ks.length)) (hN : Hid (N = ps.length)) (hD : Hid (D = M / 2)) (hqu : (M : Int).tdiv 2 = (D : Int)) (ha : Ar w kb ko ks pb po ps) (hk0 : 0 < M) (hk : M ≤ 60) (hkc : M ≤ kc ∧ kc ≤ maxLen) (hp0 : 0 < N) (hpc : N ≤ pc ∧ pc ≤ maxLen) (hy : ∀ i, (ks.getD i ⟨#[]⟩).size ≤ 281474976710656) :
    Calls Try.prog 3 #[.slice (some ⟨kb, ko, none⟩) M kc, .slice (some ⟨pb, po, none⟩) N pc] w fun x w' => x = .returned (.bool true) ∧ Below w.heap.size w w' := by
  have KN := hid known_any
  have NW := hid (V.pnew w)
  have HA := hid ha
  have HY := hid hy
  have b60 : decide ((60 : Int) < M) = false := by simp; omega
  have hpz : ((N : Int) == 0) = false := beq_eq_false_iff_ne.2 (by omega)
  have hpn : ¬ N = 0 := by omega
  have hkl : M ≤ 60 := hk
  have hpl : N ≤ 9223372036854775807 := by have := hpc.1; have := hpc.2; simp [maxLen] at this; omega
  have HC := hid (And.intro hkc hpc)
  clear ha hy hk hkc hpc
  have hwD : IntKind.i64.wrap (D : Int) = D := by have := hD.out; rw [IntKind.wrap_i64]; omega
  go_enter Try.func3, Try.ntmps3
  go_upto_region 6 with (
    go_at_call 5
    refine NW.out.mono ?_
    rintro e w1 ⟨rfl, hn⟩
    have H1 := hid (show Ai w ks (pAt ps) w.heap.size 0 false w1 from ⟨hn.out.1, hn.out.2⟩)
    clear hn NW)
  obtain ⟨p, hpe⟩ : ∃ p, p = w.heap.size := ⟨_, rfl⟩
  rw [← hpe] at H1 ⊢
  clear hpe
  go_wp2_with fail
  go_loopw [6] (fun i wr => ∃ k : Nat, i = .int .i64 k ∧ k ≤ M ∧ Hid (Ai w ks (pAt ps) p k (decide (D < k)) wr)) (fun i _ => M - (intOf i).toNat)
  case atStart => exact ⟨0, rfl, Nat.zero_le _, hid (by simpa using H1.out)⟩
  case round =>
    obtain ⟨k, rfl, hk, hp⟩ := hrel
    by_cases h1 : k < M
    · as_aux_lemma =>
      have hm : k % N < N := Nat.mod_lt _ hp0
      obtain ⟨v, hv⟩ : ∃ v, ps.getD (k % N) V.zPd = v := ⟨_, rfl⟩
      obtain ⟨key, hkey⟩ : ∃ key, ks.getD k ⟨#[]⟩ = key := ⟨_, rfl⟩
      have HCC := hid (show ∀ W, Below w.heap.size w W → W.cell? ⟨kb, ko + k, none⟩ = some (.string key) ∧ W.cell? ⟨pb, po + k % N * 3, none⟩ = some (.string v.n) ∧ W.cell? ⟨pb, po + k % N * 3 + 1, none⟩ = some (.int .i64 v.a) ∧ W.cell? ⟨pb, po + k % N * 3 + 2, none⟩ = some (.slice v.ao v.l v.c) from fun W hW => by
        have AR := HA.out.lt hW
        have hM' := hM.out
        have hN' := hN.out
        refine ⟨by rw [← hkey]; exact AR.k k (by omega), ?_, ?_, ?_⟩
        · rw [← hv]; exact AR.p0 _ (by omega)
        · rw [← hv]; exact AR.p1 _ (by omega)
        · rw [← hv]; exact AR.p2 _ (by omega))
      have hsz := HY.out k
      rw [hkey] at hsz
      have h1k : (k : Int) < M := by omega
      have hre := rem_nat k N
      have HD := hid (show Ai w ks (pAt ps) p k (decide (D < k)) wr.drew from hp.out.below (V.blw_drew (Below.refl _ _)))
      have PU := hid (V.pput p key v (GG ks (pAt ps) k) (decide (D < k)) k w.heap.size wr.drew HD.out.pv HD.out.be.size (by omega) hsz)
      have HG := hid (show V.updG (GG ks (pAt ps) k) key v = GG ks (pAt ps) (k + 1) from by
        rw [← hkey, ← hv, hN.out]; rfl)
      have hmI : ((k % N : Nat) : Int) < N := by omega
      obtain ⟨q, hq⟩ : ∃ q, k % N = q := ⟨_, rfl⟩
      rw [hq] at hre hmI hm HCC
      obtain ⟨n, a, o, l, c⟩ := v
      simp only at HCC
      obtain ⟨x0, x1, x2, x3⟩ := HCC.out _ hp.out.be
      clear hsz hv hkey hq HY KN HC H1 HA
      go_wp2_with fail
      go_region_held3 (fun wx => wx.cell? ⟨kb, ko + k, none⟩ = some (.string key) ∧ wx.cell? ⟨pb, po + q * 3, none⟩ = some (.string n) ∧ wx.cell? ⟨pb, po + q * 3 + 1, none⟩ = some (.int .i64 a) ∧ wx.cell? ⟨pb, po + q * 3 + 2, none⟩ = some (.slice o l c))
        (first | exact ⟨x0, x1, x2, x3⟩ | exact HCC.out _ A3.out.be | (go_keep; done))
        (first
         | (go_at_call 6
            refine PU.out.mono ?_
            rintro e w3 ⟨rfl, h3, k3⟩
            have A3 := hid (HD.out.on (HG.out ▸ h3) k3)
            clear h3 k3))
      have hkq : ((k : Int) == (D : Int)) = decide (k = D) := by
        by_cases e : k = D
        · subst e; simp
        · rw [decide_eq_false e]; exact beq_eq_false_iff_ne.2 (by omega)
      by_cases hkd : k = D
      · have hkt : ((k : Int) == (D : Int)) = true := by rw [hkq]; simp [hkd]
        have E3 := hid (show Ai w ks (pAt ps) p (k + 1) false w3 from by have := A3.out; rwa [show decide (D < k) = false by simp; omega] at this)
        have MK := hid (V.pmark p _ _ _ w3 E3.out.pv)
        clear hkq
        go_wp2_with (
          go_at_call 7
          refine MK.out.mono ?_
          rintro e w4 ⟨rfl, h4, k4⟩
          have A4 := hid (E3.out.on h4 k4)
          clear h4 k4)
        go_roundw
        case rel => exact ⟨k + 1, by go_num, by omega, hid (by have := A4.out; rwa [show decide (D < k + 1) = true by simp; omega])⟩
        case measure => simp [intOf]; omega
      · have hkt : ((k : Int) == (D : Int)) = false := by rw [hkq]; simp [hkd]
        clear hkq
        go_wp2_with fail
        go_roundw
        case rel => exact ⟨k + 1, by go_num, by omega, hid (by have := A3.out; rwa [show decide (D < k) = decide (D < k + 1) by by_cases e : D < k <;> simp [e] <;> omega] at this)⟩
        case measure => simp [intOf]; omega
    · have hkM : k = M := by omega
      subst hkM
      have hkk : ¬ (k : Int) < k := by omega
      have H2 := hid (show Ai w ks (pAt ps) p k (decide (D < k)) wr from hp.out)
      clear hp H1 h1 hk
      go_wp2_with fail
      go_loopw [7] (fun i wr => ∃ t : Nat, i = .int .i64 ((t : Int) - 1) ∧ t ≤ k ∧ Hid (Ai w ks (pAt ps) p k (decide (D < k)) wr)) (fun i _ => (intOf i + 1).toNat)
      case atStart => exact ⟨k, rfl, Nat.le_refl _, H2⟩
      case round =>
        obtain ⟨t, rfl, ht, hq⟩ := hrel
        cases t with
        | zero =>
          have K5 := hid (KN.out wr)
          clear H2
          go_wp2_with (
            go_at_call 4
            refine K5.out.mono ?_
            rintro e w9 ⟨rfl, hb9⟩
            have B9 := hid hb9
            clear hb9)
          go_ret
          exact ⟨rfl, hq.out.be.trans (B9.out.mono hq.out.be.size)⟩
        | succ i =>
          have hi1 : (((i + 1 : Nat) : Int) - 1) = (i : Int) := by omega
          rw [hi1]
          clear hi1 H2 KN
          have hik : i < k := by omega
          go_wp2_with fail
          go_loopw [8, 9] (fun l j wr2 => ∃ (jj : Nat) (b : Bool), l = .bool b ∧ j = .int .i64 jj ∧ i < jj ∧ jj ≤ k ∧ Hid (Ai w ks (pAt ps) p k (decide (D < k)) wr2 ∧ (b = true → ∀ x, i < x → x < jj → ks.getD x ⟨#[]⟩ ≠ ks.getD i ⟨#[]⟩))) (fun _ j _ => k - (intOf j).toNat)
          case atStart => exact ⟨i + 1, true, rfl, by go_num, by omega, by omega, hid ⟨hq.out, fun _ x h1 h2 => by omega⟩⟩
          case round =>
            obtain ⟨jj, b, rfl, rfl, h1, h2, hr⟩ := hrel
            by_cases h3 : jj < k
            · have h3k : (jj : Int) < k := by omega
              have hM' := hM.out
              have x0 := (HA.out.lt hr.out.1.be).k jj (by omega)
              have x1 := (HA.out.lt hr.out.1.be).k i (by omega)
              clear hM'
              obtain ⟨key, hkey⟩ : ∃ key, ks.getD i ⟨#[]⟩ = key := ⟨_, rfl⟩
              obtain ⟨key2, hkey2⟩ : ∃ key, ks.getD jj ⟨#[]⟩ = key := ⟨_, rfl⟩
              rw [hkey] at x1
              rw [hkey2] at x0
              have HK := hid (And.intro hkey hkey2)
              clear hkey hkey2
              cases b
              · go_wp2_with fail
                go_quiet (fail)
                go_wp2
                go_roundw
                case rel => exact ⟨jj + 1, false, rfl, by go_num, by omega, by omega, hid ⟨hr.out.1.below (V.blw_drewN (Below.refl _ _)), fun e => by cases e⟩⟩
                case measure => simp [intOf]; omega
              · go_wp2_with fail
                go_quiet (fail)
                go_wp2
                go_roundw
                case rel =>
                  refine ⟨jj + 1, _, rfl, by go_num, by omega, by omega, hid ⟨hr.out.1.below (V.blw_drewN (Below.refl _ _)), fun e x q1 q2 => ?_⟩⟩
                  by_cases hx : x = jj
                  · subst hx
                    rw [HK.out.1, HK.out.2]
                    intro e2
                    rw [e2] at e
                    simp at e
                  · exact hr.out.2 (by trivial) x q1 (by omega)
                case measure => simp [intOf]; omega
            · have hjk : jj = k := by omega
              subst hjk
              have hjj : ¬ (jj : Int) < jj := by omega
              have hm : i % N < N := Nat.mod_lt _ hp0
              have hM' := hM.out
              have hN' := hN.out
              have x0 := (HA.out.lt hr.out.1.be).k i (by omega)
              obtain ⟨key, hkey⟩ : ∃ key, ks.getD i ⟨#[]⟩ = key := ⟨_, rfl⟩
              obtain ⟨v, hv⟩ : ∃ v, ps.getD (i % N) V.zPd = v := ⟨_, rfl⟩
              rw [hkey] at x0
              have GL := hid (show b = true → GG ks (pAt ps) jj key = some v from fun e => by
                have := gg_last (P := pAt ps) (show i < jj by omega) (hr.out.2 e)
                rw [hkey] at this
                rw [this, ← hv, hN']
                rfl)
              have GT := hid (V.pget p key _ _ _ _ wr hr.out.1.pv)
              have hre := rem_nat i N
              have hmI : ((i % N : Nat) : Int) < N := by omega
              have CC := hid (show ∀ W, Below w.heap.size w W → W.cell? ⟨pb, po + i % N * 3, none⟩ = some (.string v.n) ∧ W.cell? ⟨pb, po + i % N * 3 + 1, none⟩ = some (.int .i64 v.a) ∧ W.cell? ⟨pb, po + i % N * 3 + 2, none⟩ = some (.slice v.ao v.l v.c) from fun W hW => by
                have AR := HA.out.lt hW
                rw [← hv]
                exact ⟨AR.p0 _ (by omega), AR.p1 _ (by omega), AR.p2 _ (by omega)⟩)
              obtain ⟨q, hqq⟩ : ∃ q, i % N = q := ⟨_, rfl⟩
              rw [hqq] at hre hmI hm CC
              clear hqq hv hkey hM' hN' h3
              obtain ⟨n, a, o, l, c⟩ := v
              simp only at CC
              cases b
              · clear GL
                go_wp2_with (
                  go_at_call 8
                  refine GT.out.mono ?_
                  rintro e w5 ⟨⟨r, g, rfl, hrr⟩, hb5⟩
                  obtain ⟨n', a', o', l', c'⟩ := r
                  have A5 := hid (hr.out.1.below (below_on hb5.out (below_new w5 (.cells #[.string n', .int .i64 a', .slice o' l' c'] 29))))
                  obtain ⟨y0, y1, y2⟩ := CC.out _ A5.out.be
                  clear hrr hb5)
                go_roundw
                case rel => exact ⟨i, by go_num, by omega, hid (A5.out.below (below_new _ _))⟩
                case measure => simp [intOf]
              · have GV := hid (GL.out rfl)
                clear GL
                go_wp2_with (
                  go_at_call 8
                  refine GT.out.mono ?_
                  rintro e w5 ⟨⟨r, g, rfl, hrr⟩, hb5⟩
                  obtain ⟨rfl, rfl⟩ := hrr.out _ GV.out
                  have A5 := hid (hr.out.1.below (below_on hb5.out (below_new w5 (.cells #[.string n, .int .i64 a, .slice o l c] 29))))
                  obtain ⟨y0, y1, y2⟩ := CC.out _ A5.out.be
                  clear hrr hb5)
                go_roundw
                case rel => exact ⟨i, by go_num, by omega, hid (A5.out.below (below_new _ _))⟩
                case measure => simp [intOf]

set_option maxRecDepth 100000 in
set_option maxHeartbeats 4000000 in
/-- ZigzagAny. -/
theorem any_law (u0 u1 : Value) (ks : List ByteArray) (ps : List V.Pd) (w : World) (h0 : Rf w 1 u0 ks.length (ks.map Value.string)) (h1 : Rf w 3 u1 ps.length (ps.flatMap Pc)) (hy : ∀ y ∈ ks, y.size ≤ 281474976710656) :
    Calls Try.prog 3 #[u0, u1] w fun x w' => x = .returned (.bool true) ∧ Below w.heap.size w w' := by
  obtain ⟨a0, c0, e0, l0, m0⟩ := h0.shape
  obtain ⟨a1, c1, e1, l1, m1⟩ := h1.shape
  have hy' : ∀ i, (ks.getD i ⟨#[]⟩).size ≤ 281474976710656 := fun i => by
    rcases Nat.lt_or_ge i ks.length with h | h
    · have : ks.getD i ⟨#[]⟩ = ks[i] := by simp [List.getD, h]
      rw [this]
      exact hy _ (List.getElem_mem h)
    · have : ks.getD i ⟨#[]⟩ = ⟨#[]⟩ := by simp [List.getD, h]
      rw [this]
      decide
  have KN := hid (known_any w)
  have NW := hid (V.pnew w)
  by_cases h60 : 60 < ks.length
  · subst e0 e1
    have b60 : decide ((60 : Int) < ks.length) = true := by simp; omega
    clear h0 h1 hy hy' l0 l1 m0 m1 NW
    go_enter Try.func3, Try.ntmps3
    go_wp2_with (
      go_at_call 4
      refine KN.out.mono ?_
      rintro e w9 ⟨rfl, hb9⟩
      have B9 := hid hb9
      clear hb9)
    go_ret
    exact ⟨rfl, B9.out⟩
  rcases Nat.eq_zero_or_pos ps.length with hp | hp
  · rw [hp] at e1
    subst e0 e1
    have b60 : decide ((60 : Int) < ks.length) = false := by simp; omega
    clear h0 h1 hy hy' l0 l1 m0 m1 hp NW
    go_enter Try.func3, Try.ntmps3
    go_wp2_with (
      go_at_call 4
      refine KN.out.mono ?_
      rintro e w9 ⟨rfl, hb9⟩
      have B9 := hid hb9
      clear hb9)
    go_ret
    exact ⟨rfl, B9.out⟩
  rcases Nat.eq_zero_or_pos ks.length with hk | hk
  · rw [hk] at e0
    have K2 := hid (known_any)
    clear KN
    obtain ⟨N, hN⟩ : ∃ N, N = ps.length := ⟨_, rfl⟩
    rw [← hN] at e1 hp
    subst e0 e1
    have hpz : ((N : Int) == 0) = false := beq_eq_false_iff_ne.2 (by omega)
    have hpn : ¬ N = 0 := by omega
    clear h0 h1 hy hy' l0 l1 m0 m1 hk hN h60
    go_enter Try.func3, Try.ntmps3
    go_wp2_with (first
      | (go_at_call 5
         refine NW.out.mono ?_
         rintro e w1 ⟨rfl, hn⟩
         have H1 := hid hn.out.2
         clear hn NW)
      | (go_at_call 4
         refine (K2.out _).mono ?_
         rintro e w9 ⟨rfl, hb9⟩
         have B9 := hid hb9
         clear hb9))
    go_loopw [6] (fun i wr => i = .int .i64 0 ∧ wr = w1) (fun _ _ => 0)
    case atStart => exact ⟨rfl, rfl⟩
    case round =>
      obtain ⟨rfl, rfl⟩ := hrel
      go_wp2_with fail
      go_loopw [7] (fun i w2 => i = .int .i64 (-1) ∧ w2 = wr) (fun _ _ => 0)
      case atStart => exact ⟨rfl, rfl⟩
      case round =>
        obtain ⟨rfl, rfl⟩ := hrel
        go_wp2_with (
          go_at_call 4
          refine (K2.out _).mono ?_
          rintro e w9 ⟨rfl, hb9⟩
          have B9 := hid hb9
          clear hb9)
        go_ret
        exact ⟨rfl, below_on H1.out B9.out⟩
  · obtain ⟨kb, ko, kc, e2, -, -, -⟩ := h0.lits hk (by decide)
    obtain ⟨pb, po, pc, e3, -, -, -⟩ := h1.lits hp (by decide)
    subst e2 e3
    injection e0 with _ _ q1
    injection e1 with _ _ q2
    subst q1 q2
    exact any_main ks.length ps.length (ks.length / 2) kb ko kc pb po pc ks ps w (hid rfl) (hid rfl) (hid rfl) (quo_nat _) (ar_of h0 h1 hk hp) hk (by omega) ⟨l0, m0⟩ hp ⟨l1, m1⟩ hy'

end Go.Proofs.Ythjggbcppgbdoab

namespace Go.Proofs.Ythjggbcppgbdoab
open Go.ChangeShapes Go.WideShapes Go.ChangeAt Go.RowKit

theorem Try.own : ownKnob Try.prog.godebug = none := by kernel_rfl
theorem Try.laidOut : laidOutB Try.prog = true := by kernel_rfl

set_option maxRecDepth 100000 in
theorem zigzagAny_lifted (os : Os) (started : os.Started) (H : Type) (enc : TypeId × Value → H) :
    ReturnsInHanded {} Try.checked os 3 .any (Rows.zigzagAnySpec.pre6 enc Try.prog Try.f3 Rows.zigzagAnyRow.domain false) (Rows.zigzagAnySpec.post enc Try.prog Try.f3 false true false false) := by
  refine returnsInHanded_of_change_sized (C := Try.checked) Try.own started (by kernel_rfl) Try.func3
    (ChangeSpec.witness6 (enc := enc) (C := Try.checked) false ⟨#[], #[.slice none 0 0, .slice none 0 0], []⟩ 8 (by kernel_rfl) (by kernel_rfl) (by kernel_rfl) (by kernel_rfl)) ?_
  intro W base args ds gs before hval0 hW hcnd hsz0 _
  have hval : ∀ (j : Nat) t v, Try.f3.params[j]? = some t → args[j]? = some v → Value.okWide Try.prog W .any base t v := hval0
  have hsz : (DataW.weightsEach Try.prog (Try.f3.params.toList ++ Rows.zigzagAnySpec.plain.varTypes Try.prog) (ds ++ gs)).all (· ≤ reachBytes) = true := hsz0
  have hW' := hW
  obtain ⟨p, q, hA0, hV, rfl, hfz, hnd⟩ := hW
  have hA : DataW.TrodAll enc Try.prog W 0 (fun _ => true) true Try.f3.params.toList args.toList ds p := hA0
  rw [Try.params3] at hA hval hsz
  obtain ⟨v0, vs0, d0, ds0, p0, q0, hargs0, rfl, rfl, h0, r0⟩ := trodAll_cons hA
  obtain ⟨v1, vs1, d1, ds1, p1, q1, hargs1, rfl, rfl, h1, r1⟩ := trodAll_cons r0
  obtain ⟨rfl, rfl, rfl⟩ := trodAll_nil r1
  subst hargs1
  obtain rfl : args = #[v0, v1] := by cases args; simp_all
  obtain ⟨rfl, rfl⟩ := trodVars_none hV
  obtain ⟨a0, len0, cap0, rfl⟩ := okWide_slice Try.underlying22 (hval 0 22 v0 rfl rfl)
  obtain ⟨a1, len1, cap1, rfl⟩ := okWide_slice Try.underlying23 (hval 1 23 v1 rfl rfl)
  have k0 := h0
  have lt0 : ∀ x ∈ p0, x.block < W.heap.size := by obtain ⟨m, hm⟩ := k0; exact DataW.trod_lt m _ _ _ hm
  have k1 := h1
  have lt1 : ∀ x ∈ p1, x.block < W.heap.size := by obtain ⟨m, hm⟩ := k1; exact DataW.trod_lt m _ _ _ hm
  obtain ⟨m0, hm0⟩ := h0
  obtain ⟨u0, ys0, e0, hs0, hy0⟩ := strs_of_trod hm0 (fun n hn => by
    have := List.all_eq_true.1 hsz _ (DataW.weights_mem_each (j := 0) (t := 22) (d := d0) rfl rfl n hn)
    simpa using this)
  have e0' : Value.slice a0 len0 cap0 = u0 := by injection (show [Value.slice a0 len0 cap0] = [u0] from e0)
  subst e0'
  obtain ⟨m1, hm1⟩ := h1
  obtain ⟨u1, ys1, e1, hs1⟩ := procs_of_trod hm1 (fun n hn => by
    have := List.all_eq_true.1 hsz _ (DataW.weights_mem_each (j := 1) (t := 23) (d := d1) rfl rfl n hn)
    simpa using this)
  have e1' : Value.slice a1 len1 cap1 = u1 := by injection (show [Value.slice a1 len1 cap1] = [u1] from e1)
  subst e1'
  clear hA0 hval0 hsz hsz0
  refine (any_law _ _ ys0 ys1 W hs0 hs1 hy0).mono fun e W' ⟨he, bel⟩ => ?_
  subst he
  exact ⟨_, rfl, _, _, _, [], _, [], hW', trodAll_mk1 (shut_bool Try.underlying4 _), (trodAll_cons_mk (Below.trod Try.laidOut (by kernel_rfl) (of_decide_eq_true (by kernel_rfl)) k0 bel lt0) (trodAll_cons_mk (Below.trod Try.laidOut (by kernel_rfl) (of_decide_eq_true (by kernel_rfl)) k1 bel lt1) trodAll_mk0)), rfl, bel.frame _, fun h => by cases h⟩

theorem zigzagAny_holds : Rows.ZigzagAnySaid :=
  OpenClaim.holds_of_wide 3 Try.f3 rfl rfl rfl rfl rfl rfl rfl ⟨rfl, rfl, rfl, rfl, rfl⟩ rfl rfl rfl rfl rfl (by kernel_rfl) Try.func3 (by kernel_rfl)
    (of_decide_eq_true (by kernel_rfl)) (by unfold Func.isWrapper; first | (rw [if_pos (by decide +kernel)]; kernel_rfl) | (rw [if_neg (by decide +kernel)]; exact ⟨rfl, rfl⟩))
    (fun os started H enc _ => zigzagAny_lifted os started H enc)

#print axioms zigzagAny_holds
end Go.Proofs.Ythjggbcppgbdoab
