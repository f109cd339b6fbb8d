import Derived.Test.YtdnlfacfleemeaaGreatK39
import Derived.Test.YtdnlfacfleemeaaGreatK09
namespace Go.Proofs.YtdnlfacfleemeaaGreat
open Go.RowKit Go.Lib

/-- And the values read so far. -/
structure Rxv (w W : World) (v : Value) (a : Nat) (e st : Int) (q : Nat) (nm : ByteArray) (S : Value) (vs : List Vd) : Prop where
  rq : Rxq w W v a e st q ⟨2, emp, 0, [], nm, vs⟩ (.slice none 0 0) S
  ow : W.ownsRow (q + 1) 51 3 S vs.length (vs.flatMap Vd.cells)

theorem Rxv.below {w W W' : World} {v : Value} {a : Nat} {e st : Int} {q : Nat} {nm : ByteArray} {S : Value} {vs : List Vd} (h : Rxv w W v a e st q nm S vs) (hb : Below W.heap.size W W') : Rxv w W' v a e st q nm S vs :=
  ⟨h.rq.below hb, ownsRow_kept h.ow (Kept.ofBelow hb) (fun _ _ h => h)⟩

theorem Rxv.reader {w W : World} {v : Value} {a : Nat} {e st : Int} {q : Nat} {nm : ByteArray} {S : Value} {vs : List Vd} (h : Rxv w W v a e st q nm S vs) (v2 : Value) (a2 : Nat) (e2 st2 : Int) : Rxv w (put4 W w.heap.size v2 (.int .i64 a2) (.int .i64 e2) (.int .i64 st2)) v2 a2 e2 st2 q nm S vs :=
  ⟨h.rq.reader v2 a2 e2 st2, ownsRow_kept h.ow (put4_kept W w.heap.size _ _ _ _) (fun k hk e => by have := (h.ow.lt k hk).1; have := h.rq.lq; omega)⟩

theorem Rxv.grown {w W W1 : World} {v : Value} {a : Nat} {e st : Int} {q : Nat} {nm : ByteArray} {S : Value} {vs : List Vd} {o : Obj} (h : Rxv w W v a e st q nm S vs) (hg : (W.alloc o).grownBy W1 S.ownBlock) : Rxq w W1 v a e st q ⟨2, emp, 0, [], nm, vs⟩ (.slice none 0 0) S := by
  have h1 := h.below (below1 W o)
  have hlq := h.rq.lq
  have hk := kept_grown hg
  have hne : ∀ k, k < q + 1 → ¬ S.ownBlock = some k := fun k hk e => by have := (h.ow.lt k e).1; omega
  exact ⟨⟨(hk.block _ (lt_of h1.rq.tm.r0) (hne _ (by omega))).trans h1.rq.tm.r0, (hk.block _ (lt_of h1.rq.tm.r2) (hne _ (by omega))).trans h1.rq.tm.r2, (hk.block _ (lt_of h1.rq.tm.r3) (hne _ (by omega))).trans h1.rq.tm.r3, h1.rq.tm.hb.trans (hk.below h1.rq.tm.hb.size (fun k hk e => hne k (by omega) e))⟩, (hk.block _ (lt_of h1.rq.x) (hne _ (by omega))).trans h1.rq.x, hlq⟩

theorem Rxv.app {w W W1 : World} {v : Value} {a : Nat} {e st : Int} {q : Nat} {nm : ByteArray} {S S' : Value} {vs : List Vd} {x : Vd} {o : Obj} (h : Rxv w W v a e st q nm S vs)
    (hown : W1.ownsRow (q + 1) 51 3 S' (vs.length + 1) (vs.flatMap Vd.cells ++ [x].flatMap Vd.cells)) (hg : (W.alloc o).grownBy W1 S.ownBlock) : Rxv w (W1.setCell ⟨q, 5, none⟩ S') v a e st q nm S' (vs ++ [x]) := by
  have d := h.grown hg
  obtain ⟨e1, e2⟩ := tx_set5 d.x S'
  refine ⟨d.keptq e2 e1, ownsRow_kept ?_ e2 (fun j hj e => by have := (hown.lt j hj).1; omega)⟩
  rw [List.length_append, List.flatMap_append]
  exact hown

theorem val_letters (bs us : List Int) (a : Nat) (u : Int) (a2 : Nat) (hz : takeZ 3 (bs.length : Int) bs a 0 = ((u, us), a2, 0)) :
    ∃ K I T E, decV (decZ us) = .tuple #[vl K I T, .int .i64 E] ∧ ∀ (n : Nat) (ys : List Vd), preV ys (tkVs bs bs.length (n + 1) a) = if E = 0 then preV (ys ++ [⟨K, I, T⟩]) (tkVs bs bs.length n a2) else .error E := by
  have hv : tkVal bs bs.length a = if (decZ us).2 = 0 then .ok ((decZ us).1, a2) else .error (decZ us).2 := by
    unfold tkVal
    rw [hz]
    dsimp only
    rw [if_pos rfl]
  by_cases hd : (decZ us).2 = 0
  · rw [if_pos hd] at hv
    exact ⟨(decZ us).1.1, (decZ us).1.2.1, mkStr (decZ us).1.2.2, 0, by rw [decV, if_pos hd], fun n ys => by rw [if_pos rfl]; exact preV_ok bs bs.length n a ys _ a2 hv⟩
  · rw [if_neg hd] at hv
    exact ⟨0, 0, emp, (decZ us).2, by rw [decV, if_neg hd], fun n ys => by rw [if_neg hd]; exact preV_no bs bs.length n a ys _ hv⟩

theorem tkCal_letters (bs : List Int) (a : Nat) (u4 : Int) (ns : List Int) (a4 : Nat) (e4 N : Int) (us5 : List Int) (a5 : Nat) (e5 : Int) (hz4 : takeZ 3 32 bs a 0 = ((u4, ns), a4, e4)) (hz5 : takeZ 1 0 bs a4 e4 = ((N, us5), a5, e5)) :
    tkCal bs a = if e5 = 0 then (if N ≤ 16 then calN ns (tkVs bs bs.length N.toNat a5) else .error 4) else .error e5 := by
  unfold tkCal
  rw [hz4]
  dsimp only
  by_cases h4 : e4 = 0
  · subst h4
    rw [if_pos rfl, tkCalN, hz5]
    dsimp only
    by_cases h5 : e5 = 0
    · rw [if_pos h5, if_pos h5]
      by_cases hN : N ≤ 16
      · rw [if_pos hN, if_pos hN]
        cases tkVs bs bs.length N.toNat a5 with
        | error E => rfl
        | ok r => rfl
      · rw [if_neg hN, if_neg hN]
    · rw [if_neg h5, if_neg h5]
  · rw [takeZ_stop 1 0 bs a4 e4 h4] at hz5
    injection hz5 with _ h6
    injection h6 with _ h7
    rw [if_neg h4, if_neg (by rw [← h7]; exact h4), h7]

set_option maxRecDepth 100000 in
set_option maxHeartbeats 16000000 in
/-- A call. -/
theorem rtak_call (ao : Option Addr) (cc : Nat) (bs : List Int) (a : Nat) (st : Int) (w : World) (h : Sl w (.slice ao bs.length cc) bs) (ho : Oct bs) (hl : bs.length ≤ 1000000000) (ha : a ≤ bs.length) (he : (takeZ 0 1 bs a 0).2.2 = 0) (h1 : (takeZ 0 1 bs a 0).1.1 = 2) :
    Calls Tryz.prog 31 #[.agg #[.slice ao bs.length cc, .int .i64 a, .int .i64 0, .int .i64 st]] w (TTPost w (.slice ao bs.length cc) (tkTx bs a)) := by
  have HT := hid (fun W hW => rtakeByte_any (.slice ao bs.length cc) bs a 0 st W hW hl ha (fun h => absurd rfl h))
  have hbd := takeZ_bd 0 1 bs a 0 ho
  have hle := takeZ_le 0 1 bs a 0 ho ha
  obtain ⟨R, hRR⟩ : ∃ R, R = tkTx bs a := ⟨_, rfl⟩
  rw [← hRR]
  have hR : R = tkCal bs (takeZ 0 1 bs a 0).2.1 := by rw [hRR, tkTx, if_pos he, if_neg (by rw [h1]; decide), if_pos h1]
  obtain ⟨⟨⟨u, us⟩, a2, e2⟩, hz⟩ : ∃ z, takeZ 0 1 bs a 0 = z := ⟨_, rfl⟩
  rw [hz] at HT hbd hle he h1 hR
  unfold RRPost at HT
  dsimp only at HT hle he h1 hR
  subst he h1
  have HT4 := hid (fun W st hW => rtakeText_any (.slice ao bs.length cc) bs a2 0 st 32 W hW ho hl hle (fun h => absurd rfl h) (by omega) (by omega))
  have hle4 := takeZ_le 3 32 bs a2 0 ho hle
  obtain ⟨⟨⟨u4, ns⟩, a4, e4⟩, hz4⟩ : ∃ z, takeZ 3 32 bs a2 0 = z := ⟨_, rfl⟩
  rw [hz4] at HT4 hle4
  unfold RRPost at HT4
  dsimp only at HT4 hle4
  have HT5 := hid (fun W st hW hst => rtakeNum_any (.slice ao bs.length cc) bs a4 e4 st W hW ho hl hle4 hst)
  have hle5 := takeZ_le 1 0 bs a4 e4 ho hle4
  have hb5 := takeZ_bd 1 0 bs a4 e4 ho
  obtain ⟨⟨⟨N, us5⟩, a5, e5⟩, hz5⟩ : ∃ z, takeZ 1 0 bs a4 e4 = z := ⟨_, rfl⟩
  rw [tkCal_letters bs a2 u4 ns a4 e4 N us5 a5 e5 hz4 hz5] at hR
  rw [hz5] at HT5 hle5 hb5
  unfold RRPost at HT5
  dsimp only at HT5 hle5
  have hN0 : 0 ≤ N := hb5.1
  have HR := hid hR
  have HOC := hid ho
  clear hz hR hRR hbd hz4 hz5 hb5 hle hle4
  have HS := hid h
  have H0 := hid (rxm_start w (.slice ao bs.length cc) a 0 st)
  clear h
  go_enter Tryz.func31, Tryz.ntmps31
  go_upto_region 2 with (first
    | (go_at_call 60
       refine (HT.out _ (HS.out.below H0.out.hb)).mono ?_
       rintro e w1 ⟨st2, rfl, -, hb1⟩
       have H1 := hid (H0.out.below hb1)
       obtain ⟨p0, p1, p2, p3, pz⟩ := vfacts4 H1.out.r0
       clear hb1))
  refine cutG (fun W => Rxm w W (.slice ao bs.length cc) a2 0 st2) (H1.out.reader (.slice ao bs.length cc) a2 0 st2) ?_
  intro W2 H2
  have H2 := hid H2
  clear H1 H0 HT p0 p1 p2 p3 pz
  obtain ⟨p0, p1, p2, p3, pz⟩ := vfacts4 H2.out.r0
  go_upto_region 6 with fail
  refine cutG (fun W => Rxq w W (.slice ao bs.length cc) a2 0 st2 W2.heap.size ⟨2, emp, 0, [], emp, []⟩ (.slice none 0 0) (.slice none 0 0)) (rxq_start H2.out ⟨2, emp, 0, [], emp, []⟩ (.slice none 0 0) (.slice none 0 0)) ?_
  intro W3 H3
  have H3 := hid H3
  generalize W2.heap.size = q at H3 ⊢
  clear H2 p0 p1 p2 p3 pz
  obtain ⟨p0, p1, p2, p3, pz⟩ := vfacts4 H3.out.tm.r0
  obtain ⟨x0, x1, x2, x3, x4, x5, xz⟩ := vfacts6 H3.out.x
  have nq := H3.out.lq
  dsimp only at x0 x1 x2 x3 x4 x5
  have nx1 : q ≠ w.heap.size := by omega
  have nx2 : w.heap.size ≠ q := by omega
  go_upto_region 16 with fail
  go_upto_region 17 with (first
    | (go_at_call 61
       refine (HT4.out _ st2 (HS.out.below H3.out.tm.hb)).mono ?_
       rintro e w4 ⟨st4, rfl, hst4, hb4⟩
       have HST4 := hid hst4
       have H4 := hid (H3.out.below hb4)
       clear p0 p1 p2 p3 pz x0 x1 x2 x3 x4 x5 xz
       obtain ⟨p0, p1, p2, p3, pz⟩ := vfacts4 H4.out.tm.r0
       obtain ⟨x0, x1, x2, x3, x4, x5, xz⟩ := vfacts6 H4.out.x
       have k1 := lt_of H4.out.x
       clear hb4 hst4))
  refine cutG (fun W => Rxq w W (.slice ao bs.length cc) a4 e4 st4 q ⟨2, emp, 0, [], mkStr ns, []⟩ (.slice none 0 0) (.slice none 0 0)) ((H4.out.keptq (t' := ⟨2, emp, 0, [], mkStr ns, []⟩) (tx_set4 H4.out.x (mkStr ns)).2 (tx_set4 H4.out.x (mkStr ns)).1).reader (.slice ao bs.length cc) a4 e4 st4) ?_
  intro W5 H5
  have H5 := hid H5
  clear H4 H3 HT4 p0 p1 p2 p3 pz x0 x1 x2 x3 x4 x5 xz k1
  obtain ⟨p0, p1, p2, p3, pz⟩ := vfacts4 H5.out.tm.r0
  go_upto_region 18 with (first
    | (go_at_call 30
       refine (HT5.out _ st4 (HS.out.below H5.out.tm.hb) HST4.out).mono ?_
       rintro e w6 ⟨st5, rfl, -, hb6⟩
       have H6 := hid (H5.out.below hb6)
       clear p0 p1 p2 p3 pz
       obtain ⟨p0, p1, p2, p3, pz⟩ := vfacts4 H6.out.tm.r0
       clear hb6))
  refine cutG (fun W => Rxq w W (.slice ao bs.length cc) a5 e5 st5 q ⟨2, emp, 0, [], mkStr ns, []⟩ (.slice none 0 0) (.slice none 0 0)) (H6.out.reader (.slice ao bs.length cc) a5 e5 st5) ?_
  intro HWW HW
  have HW := hid HW
  clear H6 H5 HT5 p0 p1 p2 p3 pz HST4 nq
  obtain ⟨p0, p1, p2, p3, pz⟩ := vfacts4 HW.out.tm.r0
  by_cases he : e5 = 0
  · subst he
    by_cases hN : N ≤ 16
    · obtain ⟨M, rfl⟩ : ∃ M : Nat, N = M := ⟨N.toNat, by omega⟩
      have HR2 : Hid (R = calN ns (tkVs bs bs.length M a5)) := hid (by rw [HR.out, if_pos rfl, if_pos hN]; rfl)
      have hM : M ≤ 16 := by omega
      have HL0 : Hid (Rxv w HWW (.slice ao bs.length cc) a5 0 st5 q (mkStr ns) (.slice none 0 0) []) := hid ⟨HW.out, World.ownsRow_nil _ _ _ _⟩
      have hd16 : decide ((16 : Int) < (M : Int)) = false := by simp; omega
      clear HR hN0 hN HW
      go_wp2
      clear hd16
      go_loopw [11] (fun ix wr => ∃ (n a : Nat) (st : Int) (vs : List Vd) (ao5 : Option Addr) (c5 : Nat), n ≤ M ∧ ix = .int .i64 n ∧ a ≤ bs.length ∧ vs.length = n ∧ Hid (preV vs (tkVs bs bs.length (M - n) a) = tkVs bs bs.length M a5) ∧ Hid (Rxv w wr (.slice ao bs.length cc) a 0 st q (mkStr ns) (.slice ao5 n c5) vs)) (fun ix _ => M - (intOf ix).toNat)
      case atStart => exact ⟨0, a5, st5, [], none, 0, Nat.zero_le _, rfl, hle5, rfl, hid (by rw [Nat.sub_zero]; cases tkVs bs bs.length M a5 with
        | error E => rfl
        | ok x => rfl), HL0⟩
      clear HL0 p0 p1 p2 p3 pz
      obtain ⟨n, a, st, vs, ao5, c5, hn, rfl, ha, hvs, HPR, hT⟩ := hrel
      obtain ⟨p0, p1, p2, p3, pz⟩ := vfacts4 hT.out.rq.tm.r0
      by_cases hlt : n < M
      · have hlt' : (n : Int) < (M : Int) := by omega
        have HT6 := hid (fun W hW => rtakeText_any (.slice ao bs.length cc) bs a 0 st (bs.length : Int) W hW HOC.out hl ha (fun h => absurd rfl h) (by omega) (by omega))
        have hoc := takeZ_oct3 (bs.length : Int) bs a HOC.out
        have hle6 := takeZ_le 3 (bs.length : Int) bs a 0 HOC.out ha
        obtain ⟨⟨⟨u6, us6⟩, a6, e6⟩, hz6⟩ : ∃ z, takeZ 3 (bs.length : Int) bs a 0 = z := ⟨_, rfl⟩
        rw [hz6] at HT6 hoc hle6
        unfold RRPost at HT6
        dsimp only at HT6 hoc hle6
        have HMN : Hid (M - n = (M - (n + 1)) + 1) := hid (by omega)
        have HZ6 := hid hz6
        have HO6 := hid hoc
        clear hz6 hoc
        go_upto_region 26 with (first
          | (go_at_call 61
             refine (HT6.out _ (HS.out.below hT.out.rq.tm.hb)).mono ?_
             rintro e w7 ⟨st6, rfl, -, hb7⟩
             have H7 := hid (hT.out.below hb7)
             clear p0 p1 p2 p3 pz
             obtain ⟨p0, p1, p2, p3, pz⟩ := vfacts4 H7.out.rq.tm.r0
             clear hb7))
        refine cutG (fun W => Rxv w W (.slice ao bs.length cc) a6 e6 st6 q (mkStr ns) (.slice ao5 n c5) vs) (H7.out.reader (.slice ao bs.length cc) a6 e6 st6) ?_
        intro HWW HV
        have HV := hid HV
        clear H7 hT HT6 p0 p1 p2 p3 pz
        obtain ⟨p0, p1, p2, p3, pz⟩ := vfacts4 HV.out.rq.tm.r0
        by_cases he6 : e6 = 0
        · subst he6
          obtain ⟨v5, W8, hcv, hsl, hb8⟩ := conv_bytes HWW (mkStr us6)
          rw [strBs_mkStr us6 HO6.out.1] at hsl
          have H8 := hid (HV.out.below hb8)
          have HD := hid (rdecode_any v5 us6 W8 hsl HO6.out.1 (by have := HO6.out.2; omega))
          obtain ⟨K, I, T, E, hd, hE⟩ := val_letters bs us6 a u6 a6 HZ6.out
          rw [hd] at HD
          have HE := hid hE
          clear hb8 hsl hd hE HZ6
          go_upto_region 29 with (first
            | (go_at_call 63
               refine HD.out.mono ?_
               rintro e w9 ⟨rfl, hb9⟩
               have H9 := hid (H8.out.below hb9)
               clear hb9))
          refine cutG (fun W => Rxv w W (.slice ao bs.length cc) a6 0 st6 q (mkStr ns) (.slice ao5 n c5) vs ∧ W.heap[w9.heap.size]? = some (vo K I T)) ⟨H9.out.below (below1 _ _), heap_alloc_new _ _⟩ ?_
          rintro HWW ⟨HV2, h12⟩
          have HV2 := hid HV2
          clear H9 H8 HV HD hcv p0 p1 p2 p3 pz
          generalize w9.heap.size = q12 at h12 ⊢
          by_cases hE0 : E = 0
          · subst hE0
            have HE2 := hid (fun n ys => (HE.out n ys).trans (if_pos rfl))
            obtain ⟨z0, z1, z2, zz⟩ := vfacts h12
            obtain ⟨x0, x1, x2, x3, x4, x5, xz⟩ := vfacts6 HV2.out.rq.x
            have hqb : q + 1 ≤ (HWW.alloc (vo K I T)).heap.size := by have := lt_of HV2.out.rq.x; simp; omega
            have HOW : Hid ((HWW.alloc (vo K I T)).ownsRow (q + 1) 51 3 (.slice ao5 n c5) n (vs.flatMap Vd.cells)) := hid (by have := (HV2.out.below (below1 HWW (vo K I T))).ow; rwa [hvs] at this)
            clear HE h12
            go_wp2_with (at_builtin; go_loud (
              refine wpList_append_rf _ rfl _ _ 28 51 (.agg vCells) 3 32 rfl Tryz.underlying28 Tryz.info51z rfl (by decide) (q + 1) _ n _ rfl HOW.out _ 1 ([(⟨K, I, T⟩ : Vd)].flatMap Vd.cells) rfl (rfv_new HWW ⟨K, I, T⟩) (by omega) (by unfold maxLen; omega) hqb ?_
              intro ao3 c3 w3 hown hgrow hat
              have H3 := hid (HV2.out.app (x := ⟨K, I, T⟩) (by rw [hvs]; exact hown.out) hgrow.out)
              have H4 := hid (HV2.out.grown hgrow.out)
              clear hown hgrow hat z0 z1 z2 zz x0 x1 x2 x3 x4 x5 xz
              obtain ⟨x0, x1, x2, x3, x4, x5, xz⟩ := vfacts6 H4.out.x))
            go_roundw
            case rel => exact ⟨n + 1, a6, st6, vs ++ [⟨K, I, T⟩], ao3, c3, by omega, by go_num, hle6, by simp [hvs], hid (by rw [← HE2.out, ← HMN.out]; exact HPR.out), H3⟩
            case measure => simp [intOf]; omega
          · have he2 : (E == 0) = false := by simpa using hE0
            have he3 : (E != 0) = true := by simpa using hE0
            have HN := hid hE0
            have HR3 : Hid (R = .error E) := hid (by rw [HR2.out, ← HPR.out, HMN.out, HE.out, if_neg hE0]; rfl)
            have HW := hid HV2.out.rq
            clear hE0 HE h12
            go_upto_region 30 with fail
            subst hvs
            skip
            obtain ⟨p0, p1, p2, p3, pz⟩ := vfacts4 HW.out.tm.r0
            obtain ⟨x0, x1, x2, x3, x4, x5, xz⟩ := vfacts6 HW.out.x
            obtain ⟨g0, g1, g2, g3, g4, g5, gz⟩ := vfacts6 HW.out.tm.r2
            obtain ⟨y0, y1, y2, y3, yz⟩ := vfacts4 HW.out.tm.r3
            have n0 := lt_of HW.out.tm.r3
            have nq := HW.out.lq
            have n1 : w.heap.size + 1 ≠ w.heap.size := by omega
            have n3 : w.heap.size + 1 + 1 ≠ w.heap.size := by omega
            have n5 : w.heap.size + 1 ≠ w.heap.size + 1 + 1 := by omega
            have n2 : w.heap.size + 1 ≠ q := by omega
            have n4 : w.heap.size + 1 + 1 ≠ q := by omega
            go_region_held (fun wx => (wx.cell? ⟨w.heap.size, 0, none⟩ = some (.slice ao bs.length cc) ∧ wx.cell? ⟨w.heap.size, 1, none⟩ = some (.int .i64 a6) ∧ wx.cell? ⟨w.heap.size, 2, none⟩ = some (.int .i64 0) ∧ wx.cell? ⟨w.heap.size, 3, none⟩ = some (.int .i64 st6)) ∧ (wx.cell? ⟨q, 0, none⟩ = some (.int .i64 2) ∧ wx.cell? ⟨q, 1, none⟩ = some (.string emp) ∧ wx.cell? ⟨q, 2, none⟩ = some (.int .i64 0) ∧ wx.cell? ⟨q, 3, none⟩ = some (.slice none 0 0) ∧ wx.cell? ⟨q, 4, none⟩ = some (.string (mkStr ns)) ∧ wx.cell? ⟨q, 5, none⟩ = some (.slice ao5 vs.length c5))) (first | go_keep | (simp only [dw_cellk, cs_blkk n1, cs_blkk n3, cs_blkk n2, cs_blkk n4, p0, p1, p2, p3, x0, x1, x2, x3, x4, x5, and_self]; done)) (fail)
            refine cutG (fun W => Rxe w W (.slice ao bs.length cc) a6 0 st6 (⟨2, emp, 0, [], (mkStr ns), vs⟩ : Txd) (.slice none 0 0) (.slice ao5 vs.length c5) ∧ Kept (fun k => k = w.heap.size + 1 ∨ k = w.heap.size + 1 + 1) HWW W) (HW.out.tm.ends (⟨2, emp, 0, [], (mkStr ns), vs⟩ : Txd) (.slice none 0 0) (.slice ao5 vs.length c5)) ?_
            rintro W3 ⟨H3, hk3⟩
            go_wp2
            refine bodyPost_ret (ret31 Tryz.results31 rfl rfl H3.r2 H3.r3) rfl ?_
            rw [HR3.out]
            exact ⟨H3.hb, ⟨2, emp, 0, [], mkStr ns, vs⟩, none, 0, ao5, c5, a6, 0, st6, E, rfl, rfl, HN.out⟩
        · have he2 : (e6 == 0) = false := by simpa using he6
          have he3 : (e6 != 0) = true := by simpa using he6
          have HN := hid he6
          have HR3 : Hid (R = .error e6) := hid (by
            rw [HR2.out, ← HPR.out, HMN.out, preV_no bs bs.length _ a vs e6 (by rw [tkVal, HZ6.out]; dsimp only; rw [if_neg he6])]
            rfl)
          have HW := hid HV.out.rq
          clear he6
          go_upto_region 27 with fail
          clear p0 p1 p2 p3 pz
          subst hvs
          skip
          obtain ⟨p0, p1, p2, p3, pz⟩ := vfacts4 HW.out.tm.r0
          obtain ⟨x0, x1, x2, x3, x4, x5, xz⟩ := vfacts6 HW.out.x
          obtain ⟨g0, g1, g2, g3, g4, g5, gz⟩ := vfacts6 HW.out.tm.r2
          obtain ⟨y0, y1, y2, y3, yz⟩ := vfacts4 HW.out.tm.r3
          have n0 := lt_of HW.out.tm.r3
          have nq := HW.out.lq
          have n1 : w.heap.size + 1 ≠ w.heap.size := by omega
          have n3 : w.heap.size + 1 + 1 ≠ w.heap.size := by omega
          have n5 : w.heap.size + 1 ≠ w.heap.size + 1 + 1 := by omega
          have n2 : w.heap.size + 1 ≠ q := by omega
          have n4 : w.heap.size + 1 + 1 ≠ q := by omega
          go_region_held (fun wx => (wx.cell? ⟨w.heap.size, 0, none⟩ = some (.slice ao bs.length cc) ∧ wx.cell? ⟨w.heap.size, 1, none⟩ = some (.int .i64 a6) ∧ wx.cell? ⟨w.heap.size, 2, none⟩ = some (.int .i64 e6) ∧ wx.cell? ⟨w.heap.size, 3, none⟩ = some (.int .i64 st6)) ∧ (wx.cell? ⟨q, 0, none⟩ = some (.int .i64 2) ∧ wx.cell? ⟨q, 1, none⟩ = some (.string emp) ∧ wx.cell? ⟨q, 2, none⟩ = some (.int .i64 0) ∧ wx.cell? ⟨q, 3, none⟩ = some (.slice none 0 0) ∧ wx.cell? ⟨q, 4, none⟩ = some (.string (mkStr ns)) ∧ wx.cell? ⟨q, 5, none⟩ = some (.slice ao5 vs.length c5))) (first | go_keep | (simp only [dw_cellk, cs_blkk n1, cs_blkk n3, cs_blkk n2, cs_blkk n4, p0, p1, p2, p3, x0, x1, x2, x3, x4, x5, and_self]; done)) (fail)
          refine cutG (fun W => Rxe w W (.slice ao bs.length cc) a6 e6 st6 (⟨2, emp, 0, [], (mkStr ns), vs⟩ : Txd) (.slice none 0 0) (.slice ao5 vs.length c5) ∧ Kept (fun k => k = w.heap.size + 1 ∨ k = w.heap.size + 1 + 1) HWW W) (HW.out.tm.ends (⟨2, emp, 0, [], (mkStr ns), vs⟩ : Txd) (.slice none 0 0) (.slice ao5 vs.length c5)) ?_
          rintro W3 ⟨H3, hk3⟩
          go_wp2
          refine bodyPost_ret (ret31 Tryz.results31 rfl rfl H3.r2 H3.r3) rfl ?_
          rw [HR3.out]
          exact ⟨H3.hb, ⟨2, emp, 0, [], mkStr ns, vs⟩, none, 0, ao5, c5, a6, e6, st6, e6, rfl, rfl, HN.out⟩
      · obtain rfl : n = M := by omega
        have HR3 : Hid (R = .ok (⟨2, emp, 0, [], mkStr ns, vs⟩, a)) := hid (by
          rw [HR2.out, ← HPR.out, Nat.sub_self, tkVs, preV, List.append_nil]
          rfl)
        go_upto_region 32 with fail
        clear p0 p1 p2 p3 pz
        refine cutG (fun W => Rxv w W (.slice ao bs.length cc) a 0 st q (mkStr ns) (.slice ao5 n c5) vs) hT.out ?_
        intro HWW HV
        have HW := hid HV.rq
        have HE2 : Hid (El HWW ⟨2, emp, 0, [], mkStr ns, vs⟩ (.slice none 0 0) (.slice ao5 n c5)) := hid ⟨cd_nil _, vs_of_rf (rf_of_owns HV.ow (all_oneV _)), ty_nil _ _, ty_own HV.ow⟩
        clear HV hT HR2 HPR
        subst hvs
        skip
        obtain ⟨p0, p1, p2, p3, pz⟩ := vfacts4 HW.out.tm.r0
        obtain ⟨x0, x1, x2, x3, x4, x5, xz⟩ := vfacts6 HW.out.x
        obtain ⟨g0, g1, g2, g3, g4, g5, gz⟩ := vfacts6 HW.out.tm.r2
        obtain ⟨y0, y1, y2, y3, yz⟩ := vfacts4 HW.out.tm.r3
        have n0 := lt_of HW.out.tm.r3
        have nq := HW.out.lq
        have n1 : w.heap.size + 1 ≠ w.heap.size := by omega
        have n3 : w.heap.size + 1 + 1 ≠ w.heap.size := by omega
        have n5 : w.heap.size + 1 ≠ w.heap.size + 1 + 1 := by omega
        have n2 : w.heap.size + 1 ≠ q := by omega
        have n4 : w.heap.size + 1 + 1 ≠ q := by omega
        go_region_held (fun wx => (wx.cell? ⟨w.heap.size, 0, none⟩ = some (.slice ao bs.length cc) ∧ wx.cell? ⟨w.heap.size, 1, none⟩ = some (.int .i64 a) ∧ wx.cell? ⟨w.heap.size, 2, none⟩ = some (.int .i64 0) ∧ wx.cell? ⟨w.heap.size, 3, none⟩ = some (.int .i64 st)) ∧ (wx.cell? ⟨q, 0, none⟩ = some (.int .i64 2) ∧ wx.cell? ⟨q, 1, none⟩ = some (.string emp) ∧ wx.cell? ⟨q, 2, none⟩ = some (.int .i64 0) ∧ wx.cell? ⟨q, 3, none⟩ = some (.slice none 0 0) ∧ wx.cell? ⟨q, 4, none⟩ = some (.string (mkStr ns)) ∧ wx.cell? ⟨q, 5, none⟩ = some (.slice ao5 vs.length c5))) (first | go_keep | (simp only [dw_cellk, cs_blkk n1, cs_blkk n3, cs_blkk n2, cs_blkk n4, p0, p1, p2, p3, x0, x1, x2, x3, x4, x5, and_self]; done)) (fail)
        refine cutG (fun W => Rxe w W (.slice ao bs.length cc) a 0 st (⟨2, emp, 0, [], (mkStr ns), vs⟩ : Txd) (.slice none 0 0) (.slice ao5 vs.length c5) ∧ Kept (fun k => k = w.heap.size + 1 ∨ k = w.heap.size + 1 + 1) HWW W) (HW.out.tm.ends (⟨2, emp, 0, [], (mkStr ns), vs⟩ : Txd) (.slice none 0 0) (.slice ao5 vs.length c5)) ?_
        rintro W3 ⟨H3, hk3⟩
        go_wp2
        refine bodyPost_ret (ret31 Tryz.results31 rfl rfl H3.r2 H3.r3) rfl ?_
        have hEl := HW.out.tm.keeps hk3 HE2.out
        rw [HR3.out]
        exact ⟨H3.hb, ⟨2, emp, 0, [], mkStr ns, vs⟩, none, 0, ao5, c5, a, 0, st, 0, rfl, rfl, rfl, rfl, rfl, hEl⟩
    · have hN' : (16 : Int) < N := by omega
      have HR2 : Hid (R = .error 4) := hid (by rw [HR.out, if_pos rfl, if_neg hN])
      clear hN HR
      go_upto_region 21 with fail
      clear p0 p1 p2 p3 pz
      skip
      obtain ⟨p0, p1, p2, p3, pz⟩ := vfacts4 HW.out.tm.r0
      obtain ⟨x0, x1, x2, x3, x4, x5, xz⟩ := vfacts6 HW.out.x
      obtain ⟨g0, g1, g2, g3, g4, g5, gz⟩ := vfacts6 HW.out.tm.r2
      obtain ⟨y0, y1, y2, y3, yz⟩ := vfacts4 HW.out.tm.r3
      have n0 := lt_of HW.out.tm.r3
      have nq := HW.out.lq
      have n1 : w.heap.size + 1 ≠ w.heap.size := by omega
      have n3 : w.heap.size + 1 + 1 ≠ w.heap.size := by omega
      have n5 : w.heap.size + 1 ≠ w.heap.size + 1 + 1 := by omega
      have n2 : w.heap.size + 1 ≠ q := by omega
      have n4 : w.heap.size + 1 + 1 ≠ q := by omega
      go_region_held (fun wx => (wx.cell? ⟨w.heap.size, 0, none⟩ = some (.slice ao bs.length cc) ∧ wx.cell? ⟨w.heap.size, 1, none⟩ = some (.int .i64 a5) ∧ wx.cell? ⟨w.heap.size, 2, none⟩ = some (.int .i64 0) ∧ wx.cell? ⟨w.heap.size, 3, none⟩ = some (.int .i64 st5)) ∧ (wx.cell? ⟨q, 0, none⟩ = some (.int .i64 2) ∧ wx.cell? ⟨q, 1, none⟩ = some (.string emp) ∧ wx.cell? ⟨q, 2, none⟩ = some (.int .i64 0) ∧ wx.cell? ⟨q, 3, none⟩ = some (.slice none 0 0) ∧ wx.cell? ⟨q, 4, none⟩ = some (.string (mkStr ns)) ∧ wx.cell? ⟨q, 5, none⟩ = some (.slice none 0 0))) (first | go_keep | (simp only [dw_cellk, cs_blkk n1, cs_blkk n3, cs_blkk n2, cs_blkk n4, p0, p1, p2, p3, x0, x1, x2, x3, x4, x5, and_self]; done)) (fail)
      refine cutG (fun W => Rxe w W (.slice ao bs.length cc) a5 0 st5 (⟨2, emp, 0, [], (mkStr ns), []⟩ : Txd) (.slice none 0 0) (.slice none 0 0) ∧ Kept (fun k => k = w.heap.size + 1 ∨ k = w.heap.size + 1 + 1) HWW W) (HW.out.tm.ends (⟨2, emp, 0, [], (mkStr ns), []⟩ : Txd) (.slice none 0 0) (.slice none 0 0)) ?_
      rintro W3 ⟨H3, hk3⟩
      go_wp2
      refine bodyPost_ret (ret31 Tryz.results31 rfl rfl H3.r2 H3.r3) rfl ?_
      rw [HR2.out]
      exact ⟨H3.hb, ⟨2, emp, 0, [], mkStr ns, []⟩, none, 0, none, 0, a5, 0, st5, 4, rfl, rfl, by decide⟩
  · have he2 : (e5 == 0) = false := by simpa using he
    have he3 : (e5 != 0) = true := by simpa using he
    have HN := hid he
    have HR2 : Hid (R = .error e5) := hid (by rw [HR.out, if_neg he])
    clear he HR
    go_upto_region 19 with fail
    clear p0 p1 p2 p3 pz
    skip
    obtain ⟨p0, p1, p2, p3, pz⟩ := vfacts4 HW.out.tm.r0
    obtain ⟨x0, x1, x2, x3, x4, x5, xz⟩ := vfacts6 HW.out.x
    obtain ⟨g0, g1, g2, g3, g4, g5, gz⟩ := vfacts6 HW.out.tm.r2
    obtain ⟨y0, y1, y2, y3, yz⟩ := vfacts4 HW.out.tm.r3
    have n0 := lt_of HW.out.tm.r3
    have nq := HW.out.lq
    have n1 : w.heap.size + 1 ≠ w.heap.size := by omega
    have n3 : w.heap.size + 1 + 1 ≠ w.heap.size := by omega
    have n5 : w.heap.size + 1 ≠ w.heap.size + 1 + 1 := by omega
    have n2 : w.heap.size + 1 ≠ q := by omega
    have n4 : w.heap.size + 1 + 1 ≠ q := by omega
    go_region_held (fun wx => (wx.cell? ⟨w.heap.size, 0, none⟩ = some (.slice ao bs.length cc) ∧ wx.cell? ⟨w.heap.size, 1, none⟩ = some (.int .i64 a5) ∧ wx.cell? ⟨w.heap.size, 2, none⟩ = some (.int .i64 e5) ∧ wx.cell? ⟨w.heap.size, 3, none⟩ = some (.int .i64 st5)) ∧ (wx.cell? ⟨q, 0, none⟩ = some (.int .i64 2) ∧ wx.cell? ⟨q, 1, none⟩ = some (.string emp) ∧ wx.cell? ⟨q, 2, none⟩ = some (.int .i64 0) ∧ wx.cell? ⟨q, 3, none⟩ = some (.slice none 0 0) ∧ wx.cell? ⟨q, 4, none⟩ = some (.string (mkStr ns)) ∧ wx.cell? ⟨q, 5, none⟩ = some (.slice none 0 0))) (first | go_keep | (simp only [dw_cellk, cs_blkk n1, cs_blkk n3, cs_blkk n2, cs_blkk n4, p0, p1, p2, p3, x0, x1, x2, x3, x4, x5, and_self]; done)) (fail)
    refine cutG (fun W => Rxe w W (.slice ao bs.length cc) a5 e5 st5 (⟨2, emp, 0, [], (mkStr ns), []⟩ : Txd) (.slice none 0 0) (.slice none 0 0) ∧ Kept (fun k => k = w.heap.size + 1 ∨ k = w.heap.size + 1 + 1) HWW W) (HW.out.tm.ends (⟨2, emp, 0, [], (mkStr ns), []⟩ : Txd) (.slice none 0 0) (.slice none 0 0)) ?_
    rintro W3 ⟨H3, hk3⟩
    go_wp2
    refine bodyPost_ret (ret31 Tryz.results31 rfl rfl H3.r2 H3.r3) rfl ?_
    rw [HR2.out]
    exact ⟨H3.hb, ⟨2, emp, 0, [], mkStr ns, []⟩, none, 0, none, 0, a5, e5, st5, e5, rfl, rfl, HN.out⟩

end Go.Proofs.YtdnlfacfleemeaaGreat

namespace Go.Proofs.YtdnlfacfleemeaaGreat
open Go.RowKit Go.Lib

/-- The document's taken. -/
theorem rtak_any (ao : Option Addr) (cc : Nat) (bs : List Int) (a : Nat) (st : Int) (w : World) (h : Sl w (.slice ao bs.length cc) bs) (ho : Oct bs) (hl : bs.length ≤ 1000000000) (ha : a ≤ bs.length) :
    Calls Tryz.prog 31 #[.agg #[.slice ao bs.length cc, .int .i64 a, .int .i64 0, .int .i64 st]] w (TTPost w (.slice ao bs.length cc) (tkTx bs a)) := by
  by_cases he : (takeZ 0 1 bs a 0).2.2 = 0
  · by_cases h1 : (takeZ 0 1 bs a 0).1.1 = 1
    · exact rtak_def ao cc bs a st w h ho hl ha he h1
    · by_cases h2 : (takeZ 0 1 bs a 0).1.1 = 2
      · exact rtak_call ao cc bs a st w h ho hl ha he h2
      · exact rtak_other ao cc bs a st w h ho hl ha he h1 h2
  · exact rtak_no ao cc bs a st w h hl ha he

/-- What the document's Decode of a batch leaves. -/
def RB (w : World) (r : Except Int (Int × List Txd)) (e : Ending) (w' : World) : Prop :=
  Below w.heap.size w w' ∧ match r with
  | .ok (f, ts) => ∃ S, e = .returned (.tuple #[.agg #[.int .i64 f, S], .int .i64 0]) ∧ TsAt 0 w' S ts
  | .error E => e = .returned (.tuple #[.agg #[.int .i64 0, .slice none 0 0], .int .i64 E])

/-- Within it: the answer's block, the Reader's, the batch's. -/
structure Rd4 (w W : World) (v : Value) (a : Nat) (e st : Int) (f : Int) (S : Value) (r q : Nat) : Prop where
  res : W.heap[w.heap.size]? = some (bo 0 (.slice none 0 0))
  rr : W.heap[r]? = some (.cells #[v, .int .i64 a, .int .i64 e, .int .i64 st] 74 (0, 0))
  rb : W.heap[q]? = some (bo f S)
  lt : w.heap.size < r ∧ r < q
  hb : Below w.heap.size w W

theorem Rd4.below {w W W' : World} {v : Value} {a : Nat} {e st f : Int} {S : Value} {r q : Nat} (h : Rd4 w W v a e st f S r q) (hb : Below W.heap.size W W') : Rd4 w W' v a e st f S r q :=
  ⟨blk_of hb h.res (lt_of h.res), blk_of hb h.rr (lt_of h.rr), blk_of hb h.rb (lt_of h.rb), h.lt, below_on h.hb hb⟩

theorem Rd4.reader {w W : World} {v : Value} {a : Nat} {e st f : Int} {S : Value} {r q : Nat} (h : Rd4 w W v a e st f S r q) (v2 : Value) (a2 : Nat) (e2 st2 : Int) : Rd4 w (put4 W r v2 (.int .i64 a2) (.int .i64 e2) (.int .i64 st2)) v2 a2 e2 st2 f S r q := by
  have k := put4_kept W r v2 (.int .i64 a2) (.int .i64 e2) (.int .i64 st2)
  have := h.lt
  exact ⟨(k.block _ (lt_of h.res) (by omega)).trans h.res, set4 h.rr _ _ _ _, (k.block _ (lt_of h.rb) (by omega)).trans h.rb, h.lt, h.hb.trans (k.below h.hb.size (fun q hq e => by omega))⟩

theorem Rd4.keptq {w W W' : World} {v : Value} {a : Nat} {e st f f' : Int} {S S' : Value} {r q : Nat} (h : Rd4 w W v a e st f S r q) (k : Kept (fun k => k = q) W W') (hx : W'.heap[q]? = some (bo f' S')) : Rd4 w W' v a e st f' S' r q := by
  have := h.lt
  exact ⟨(k.block _ (lt_of h.res) (by omega)).trans h.res, (k.block _ (lt_of h.rr) (by omega)).trans h.rr, hx, h.lt, h.hb.trans (k.below h.hb.size (fun q hq e => by omega))⟩

theorem bo_set0 {W : World} {q : Nat} {f : Int} {S : Value} (h : W.heap[q]? = some (bo f S)) (g : Int) : (W.setCell ⟨q, 0, none⟩ (.int .i64 g)).heap[q]? = some (bo g S) ∧ Kept (fun k => k = q) W (W.setCell ⟨q, 0, none⟩ (.int .i64 g)) :=
  ⟨by simp [World.setCell, Array.getElem?_modify, h], (Kept.refl (fun k => k = q) W).setCell (p := ⟨q, 0, none⟩) (fun _ => rfl) _⟩

theorem bo_set1 {W : World} {q : Nat} {f : Int} {S : Value} (h : W.heap[q]? = some (bo f S)) (S' : Value) : (W.setCell ⟨q, 1, none⟩ S').heap[q]? = some (bo f S') ∧ Kept (fun k => k = q) W (W.setCell ⟨q, 1, none⟩ S') :=
  ⟨by simp [World.setCell, Array.getElem?_modify, h], (Kept.refl (fun k => k = q) W).setCell (p := ⟨q, 1, none⟩) (fun _ => rfl) _⟩

theorem rd4_start {w w1 : World} (v : Value) (hb : Below (w.alloc (bo 0 (.slice none 0 0))).heap.size (w.alloc (bo 0 (.slice none 0 0))) w1) :
    Rd4 w ((w1.alloc (.cells #[v, .int .i64 0, .int .i64 0, .int .i64 0] 74)).alloc (bo 0 (.slice none 0 0))) v 0 0 0 0 (.slice none 0 0) w1.heap.size (w1.heap.size + 1) := by
  have h0 := blk_of hb (heap_alloc_new w (bo 0 (.slice none 0 0))) (by simp)
  have b2 := below2 w1 (.cells #[v, .int .i64 0, .int .i64 0, .int .i64 0] 74) (bo 0 (.slice none 0 0))
  exact ⟨blk_of b2 h0 (lt_of h0), two1 w1 _ _, two2 w1 _ _, ⟨lt_of h0, by omega⟩, below_on (below_on (below1 w _) hb) b2⟩

theorem load24b {w : World} {r : Nat} {a b : Value} (hb : w.heap[r]? = some (.cells #[a, b] 24 (0, 0))) : (loadVar 24 ⟨r, 0, none⟩).run Tryz.prog w = .ok (.agg #[a, b]) w := by
  obtain ⟨c0, c1, _⟩ := vfacts2 hb
  simp [go_sem, c0, c1]

theorem ret16 {fn : Func} {p u : Tmp} (h : fn.results = #[.cell p 24, .tmp u]) {tmps : Array Value} {r : Nat} {w : World} {a b : Value} (ht : tmps.getD p undef = .pointer (some ⟨r, 0, none⟩)) (hb : w.heap[r]? = some (.cells #[a, b] 24 (0, 0))) :
    (results fn tmps).run Tryz.prog w = .ok (.tuple #[.agg #[a, b], tmps.getD u undef]) w := by
  rw [results_cell_tmp h, ht]
  simp [Result.andThen, load24b hb, asAddr]

theorem res_fin {w W : World} (h : W.heap[w.heap.size]? = some (bo 0 (.slice none 0 0))) (hb : Below w.heap.size w W) (x y : Value) :
    ((W.setCell ⟨w.heap.size, 0, none⟩ x).setCell ⟨w.heap.size, 1, none⟩ y).heap[w.heap.size]? = some (.cells #[x, y] 24 (0, 0)) ∧ Below w.heap.size w ((W.setCell ⟨w.heap.size, 0, none⟩ x).setCell ⟨w.heap.size, 1, none⟩ y) :=
  ⟨set2c h, below_set2 hb (Nat.le_refl _) x y⟩

/-- And the transactions read so far. -/
structure Rd5 (w W : World) (v : Value) (a : Nat) (e st : Int) (f : Int) (S : Value) (r q : Nat) (zs : List Tx2) : Prop where
  cs : Rd4 w W v a e st f S r q
  ow : W.ownsRow (q + 1) 30 6 S zs.length (zs.flatMap Tx2.cells)
  el : ∀ z ∈ zs, El W z.t z.S1 z.S2

theorem Rd5.below {w W W' : World} {v : Value} {a : Nat} {e st f : Int} {S : Value} {r q : Nat} {zs : List Tx2} (h : Rd5 w W v a e st f S r q zs) (hb : Below W.heap.size W W') : Rd5 w W' v a e st f S r q zs :=
  ⟨h.cs.below hb, ownsRow_kept h.ow (Kept.ofBelow hb) (fun _ _ h => h), fun z hz => (h.el z hz).below hb⟩

theorem Rd5.reader {w W : World} {v : Value} {a : Nat} {e st f : Int} {S : Value} {r q : Nat} {zs : List Tx2} (h : Rd5 w W v a e st f S r q zs) (v2 : Value) (a2 : Nat) (e2 st2 : Int) : Rd5 w (put4 W r v2 (.int .i64 a2) (.int .i64 e2) (.int .i64 st2)) v2 a2 e2 st2 f S r q zs := by
  have k := put4_kept W r v2 (.int .i64 a2) (.int .i64 e2) (.int .i64 st2)
  refine ⟨h.cs.reader v2 a2 e2 st2, ownsRow_kept h.ow k (fun k hk e => by have := (h.ow.lt k hk).1; have := h.cs.lt; omega), fun z hz => (h.el z hz).kept k (fun k cur e hc he hk2 => ?_)⟩
  subst hk2
  rw [h.cs.rr] at hc
  rcases he with rfl | rfl <;> simp at hc

theorem Rd5.ts {w W : World} {v : Value} {a : Nat} {e st f : Int} {S : Value} {r q : Nat} {zs : List Tx2} (h : Rd5 w W v a e st f S r q zs) : TsAt 0 W S (zs.map Tx2.t) := by
  obtain ⟨ao, c, rfl⟩ := own_shape h.ow
  have hcap : zs.length ≤ c := by
    rcases h.ow.2 with ⟨e1, e2⟩ | ⟨g, cap, cur, e1, _, _, hle, _⟩
    · injection e1 with _ e3 e4; omega
    · injection e1 with _ e3 e4; omega
  refine ⟨ao, c, by rw [List.length_map], by rw [List.length_map]; exact hcap, fun hne => ?_⟩
  have h0 : 0 < zs.length := by
    rcases zs with _ | ⟨z, zs⟩
    · exact absurd rfl hne
    · simp
  obtain ⟨g, cur, rfl, _, _, _, hat⟩ := own_ts h.ow rfl h0
  refine ⟨g, 0, rfl, Nat.zero_le _, fun j t ht => ?_⟩
  rw [List.getElem?_map] at ht
  cases hz : zs[j]? with
  | none => rw [hz] at ht; cases ht
  | some z =>
    rw [hz] at ht
    injection ht with ht
    subst ht
    rw [Nat.zero_add]
    have hm := List.mem_of_getElem? hz
    exact ⟨z.S1, z.S2, hat j z hz, (h.el z hm).c, (h.el z hm).v⟩

theorem Rd5.fin {w W : World} {v : Value} {a : Nat} {e st f : Int} {S : Value} {r q : Nat} {zs : List Tx2} (h : Rd5 w W v a e st f S r q zs) (x y : Value) : TsAt 0 ((W.setCell ⟨w.heap.size, 0, none⟩ x).setCell ⟨w.heap.size, 1, none⟩ y) S (zs.map Tx2.t) := by
  have k := ((Kept.refl (fun k => k = w.heap.size) W).setCell (p := ⟨w.heap.size, 0, none⟩) (fun _ => rfl) x).setCell (p := ⟨w.heap.size, 1, none⟩) (fun _ => rfl) y
  have hlt := h.cs.lt
  have hel : ∀ z ∈ zs, El ((W.setCell ⟨w.heap.size, 0, none⟩ x).setCell ⟨w.heap.size, 1, none⟩ y) z.t z.S1 z.S2 := fun z hz => (h.el z hz).kept k (fun k cur e hc he hk2 => by
    subst hk2
    rw [h.cs.res] at hc
    rcases he with rfl | rfl <;> simp at hc)
  have how := ownsRow_kept h.ow k (fun j hj e => by have := (h.ow.lt j hj).1; omega)
  generalize (W.setCell ⟨w.heap.size, 0, none⟩ x).setCell ⟨w.heap.size, 1, none⟩ y = V at how hel
  obtain ⟨ao, c, rfl⟩ := own_shape how
  have hcap : zs.length ≤ c := by
    rcases how.2 with ⟨e1, e2⟩ | ⟨g, cap, cur, e1, _, _, hle, _⟩
    · injection e1 with _ e3 e4; omega
    · injection e1 with _ e3 e4; omega
  refine ⟨ao, c, by rw [List.length_map], by rw [List.length_map]; exact hcap, fun hne => ?_⟩
  have h0 : 0 < zs.length := by
    rcases zs with _ | ⟨z, zs⟩
    · exact absurd rfl hne
    · simp
  obtain ⟨g, cur, rfl, _, _, _, hat⟩ := own_ts how rfl h0
  refine ⟨g, 0, rfl, Nat.zero_le _, fun j t ht => ?_⟩
  rw [List.getElem?_map] at ht
  cases hz : zs[j]? with
  | none => rw [hz] at ht; cases ht
  | some z =>
    rw [hz] at ht
    injection ht with ht
    subst ht
    rw [Nat.zero_add]
    have hm := List.mem_of_getElem? hz
    exact ⟨z.S1, z.S2, hat j z hz, (hel z hm).c, (hel z hm).v⟩

theorem Rd5.grown {w W W1 : World} {v : Value} {a : Nat} {e st f : Int} {S : Value} {r q : Nat} {zs : List Tx2} {o : Obj} (h : Rd5 w W v a e st f S r q zs) (hg : (W.alloc o).grownBy W1 S.ownBlock) : Rd4 w W1 v a e st f S r q := by
  have h1 := h.below (below1 W o)
  have hlt := h.cs.lt
  have hk := kept_grown hg
  have hne : ∀ k, k < q + 1 → ¬ S.ownBlock = some k := fun k hk e => by have := (h.ow.lt k e).1; omega
  exact ⟨(hk.block _ (lt_of h1.cs.res) (hne _ (by omega))).trans h1.cs.res, (hk.block _ (lt_of h1.cs.rr) (hne _ (by omega))).trans h1.cs.rr, (hk.block _ (lt_of h1.cs.rb) (hne _ (by omega))).trans h1.cs.rb, hlt, h1.cs.hb.trans (hk.below h1.cs.hb.size (fun k hk e => hne k (by omega) e))⟩

theorem Rd5.app {w W W1 : World} {v : Value} {a : Nat} {e st f : Int} {S S' : Value} {r q : Nat} {zs : List Tx2} {x : Tx2} {o : Obj} (h : Rd5 w W v a e st f S r q zs) (hx : El W x.t x.S1 x.S2)
    (hown : W1.ownsRow (q + 1) 30 6 S' (zs.length + 1) (zs.flatMap Tx2.cells ++ [x].flatMap Tx2.cells)) (hg : (W.alloc o).grownBy W1 S.ownBlock) : Rd5 w (W1.setCell ⟨q, 1, none⟩ S') v a e st f S' r q (zs ++ [x]) := by
  have d := h.grown hg
  have h1 := h.below (below1 W o)
  have hx1 := hx.below (below1 W o)
  obtain ⟨e1, e2⟩ := bo_set1 d.rb S'
  have hk := kept_grown hg
  have hel : ∀ {t : Txd} {U1 U2 : Value}, El (W.alloc o) t U1 U2 → El (W1.setCell ⟨q, 1, none⟩ S') t U1 U2 := fun hh => (hh.kept hk (fun k cur e hc he hk2 => by
    obtain ⟨cu, hcu⟩ := ty_own h1.ow k hk2
    rw [hcu] at hc
    rcases he with rfl | rfl <;> simp at hc)).kept e2 (fun k cur e hc he hk2 => by
    subst hk2
    rw [d.rb] at hc
    rcases he with rfl | rfl <;> simp at hc)
  refine ⟨d.keptq e2 e1, ownsRow_kept ?_ e2 (fun j hj e => by have := (hown.lt j hj).1; omega), fun z hz => ?_⟩
  · rw [List.length_append, List.flatMap_append]
    exact hown
  · rcases List.mem_append.1 hz with hz | hz
    · exact hel (h1.el z hz)
    · rw [List.mem_singleton] at hz
      subst hz
      exact hel hx1

theorem tkBat_letters (bs : List Int) (f : Int) (us1 : List Int) (a1 : Nat) (e1 N : Int) (us2 : List Int) (a2 : Nat) (e2 : Int) (hz1 : takeZ 1 0 bs 0 0 = ((f, us1), a1, e1)) (hz2 : takeZ 1 0 bs a1 e1 = ((N, us2), a2, e2)) :
    tkBat bs = if e2 = 0 then (if N ≤ 64 then tkBEnd bs f (tkTs bs N.toNat a2) else .error 1) else .error e2 := by
  unfold tkBat
  rw [hz1]
  dsimp only
  by_cases h1 : e1 = 0
  · subst h1
    rw [if_pos rfl, tkBatN, hz2]
  · rw [takeZ_stop 1 0 bs a1 e1 h1] at hz2
    injection hz2 with _ h6
    injection h6 with _ h7
    rw [if_neg h1, if_neg (by rw [← h7]; exact h1), h7]

end Go.Proofs.YtdnlfacfleemeaaGreat
