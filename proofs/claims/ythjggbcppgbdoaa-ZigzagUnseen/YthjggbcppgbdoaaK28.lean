import Derived.Test.YthjggbcppgbdoaaK27
namespace Go.Proofs.Ythjggbcppgbdoaa
open Go.RowKit

set_option maxRecDepth 100000 in
set_option maxHeartbeats 8000000 in
theorem unseen_any (sv : Value) (ys : List Sp) (w : World) (hr : Rf w 6 sv ys.length (ys.flatMap Sp.cl)) (hys : ∀ y ∈ ys, y.key.size ≤ 140737488355328 ∧ y.to.size ≤ 140737488355328 ∧ y.other.size ≤ 140737488355328) :
    Calls Try.prog 7 #[sv] w fun x w' => x = .returned (.bool true) ∧ Below w.heap.size w w' := by
  obtain ⟨ao, cap, e, -, -⟩ := hr.shape
  have KN := hid known_any
  have MU := hid (much_or sv ys w hr hys)
  have HR := hid hr
  subst e
  clear hr hys
  go_enter Try.func7, Try.ntmps7
  go_upto_region 3 with (first
    | (go_at_call 9
       refine MU.out.mono ?_
       rintro e w1 (⟨rfl, hb⟩ | ⟨rfl, hsm, hb⟩)
       all_goals first
         | (have SM := hid hsm
            have B1 := hid hb
            clear hsm hb MU)
         | (have B1 := hid hb
            clear hb MU))
    | (go_at_call 10
       refine (KN.out _).mono ?_
       rintro e wk ⟨rfl, hbk⟩
       have BK := hid (below_on B1.out hbk)
       clear hbk))
  · go_ret
    exact ⟨rfl, BK.out⟩
  have NW := hid (vnew w1)
  go_upto_region 7 with (first
    | (go_at_call 11
       refine NW.out.mono ?_
       rintro e w2 ⟨rfl, hz, hb, hsz⟩
       have Z2 := hid hz
       have B2 := hid hb
       have S2 := hid hsz
       have NV := hid (vnew w2)
       clear hz hb hsz NW)
    | (go_at_call 11
       refine NV.out.mono ?_
       rintro e w3 ⟨rfl, hz, hb, hsz⟩
       have Z3 := hid hz
       have B3 := hid hb
       have S3 := hid hsz
       clear hz hb hsz NV))
  have U0 := hid (us_new (w := w) (Z2.out.below B3.out) Z3.out (by have := S2.out; have := B3.out.size; omega) (by have := S3.out; omega) (by have := S2.out; omega) B1.out.size (by have := B1.out.size; have := B2.out.size; omega) (below_on (below_on B1.out B2.out) B3.out))
  clear Z2 Z3 B2 B3 S2 S3 B1
  generalize w2.heap.size = pb at U0 ⊢
  generalize w1.heap.size = pa at U0 ⊢
  go_wp2_with fail
  go_loopw [5] (fun i wr => ∃ (k : Nat) (A B : List Pl) (m : Bool) (F G : Nat → Prop), i = .int .i64 k ∧ k ≤ ys.length ∧ Hid (Us w pa pb A B m k F G wr)) (fun i _ => ys.length - (intOf i).toNat)
  case atStart => exact ⟨0, _, _, _, _, _, rfl, Nat.zero_le _, U0⟩
  case round =>
    obtain ⟨k, A, B, m, F, G, rfl, hk, hp⟩ := hrel
    have hks := SM.out.n
    by_cases h1 : k < ys.length
    · obtain ⟨g, off, cap', e, -, -, hcell⟩ := (HR.out.below hp.out.be).lits (by omega) (by omega)
      injection e with e1 _ e3
      subst e1 e3
      obtain ⟨x, hxe⟩ : ∃ x, ys[k] = x := ⟨_, rfl⟩
      have hxk := SM.out.k x (by rw [← hxe]; exact List.getElem_mem h1)
      have hfl : ∀ c u, c < 6 → x.cl[c]? = some u → (ys.flatMap Sp.cl)[k * 6 + c]? = some u := fun c u hc hu => by
        rw [flat_get Sp.cl 6 Sp.len ys k c hc, List.getElem?_eq_getElem h1, hxe]
        exact hu
      have v0 := hcell _ _ (hfl 0 _ (by omega) rfl)
      have v1 := hcell _ _ (hfl 1 _ (by omega) rfl)
      have v2 := hcell _ _ (hfl 2 _ (by omega) rfl)
      have v3 := hcell _ _ (hfl 3 _ (by omega) rfl)
      have v4 := hcell _ _ (hfl 4 _ (by omega) rfl)
      have v5 := hcell _ _ (hfl 5 _ (by omega) rfl)
      simp only [Nat.add_zero, ← Nat.add_assoc] at v0 v1 v2 v3 v4 v5
      have h1k : (k : Int) < ys.length := by omega
      obtain ⟨xk, xv, xn, key, to, oth⟩ := x
      simp only at hxk v0 v1 v2 v3 v4 v5
      have HXK := hid hxk
      have HK := hid (show k + 1 ≤ ys.length ∧ ys.length ≤ 200 from ⟨h1, hks⟩)
      clear hcell hfl hxe hxk hks U0
      go_upto_region 11 with fail
      have PX := hid (hp.out.below (below_new wr (.cells #[.int .i64 xk, .int .i64 xv, .int .i64 xn, .string key, .string to, .string oth] 36)))
      have XX := hid (hp_new wr (.cells #[.int .i64 xk, .int .i64 xv, .int .i64 xn, .string key, .string to, .string oth] 36))
      have FL := hid (show ¬ F wr.heap.size ∧ ¬ G wr.heap.size from ⟨fun hf => by have := hp.out.fa _ hf; omega, fun hf => by have := hp.out.fb _ hf; omega⟩)
      clear v0 v1 v2 v3 v4 v5 hp
      generalize wr.alloc (.cells #[.int .i64 xk, .int .i64 xv, .int .i64 xn, .string key, .string to, .string oth] 36) = Wx at PX XX ⊢
      obtain ⟨x0, x1, x2, x3, x4, x5⟩ : Wx.cell? ⟨wr.heap.size, 0, none⟩ = some (.int .i64 xk) ∧ Wx.cell? ⟨wr.heap.size, 1, none⟩ = some (.int .i64 xv) ∧ Wx.cell? ⟨wr.heap.size, 2, none⟩ = some (.int .i64 xn) ∧ Wx.cell? ⟨wr.heap.size, 3, none⟩ = some (.string key) ∧ Wx.cell? ⟨wr.heap.size, 4, none⟩ = some (.string to) ∧ Wx.cell? ⟨wr.heap.size, 5, none⟩ = some (.string oth) := cells6 XX.out
      have TM := hid (us_mark PX.out)
      have TD := hid (us_done PX.out (by have := HK.out; omega))
      have hkk : (xk = 3 ∨ xk = 4 ∨ ((xk == 3) = false ∧ (xk == 4) = false)) := by
        by_cases a3 : xk = 3
        · exact .inl a3
        · by_cases a4 : xk = 4
          · exact .inr (.inl a4)
          · exact .inr (.inr ⟨by simpa using a3, by simpa using a4⟩)
      rcases hkk with a3 | a4 | ⟨b3, b4⟩
      · as_aux_lemma =>
        have b3 : (xk == 3) = true := by simp [a3]
        have b4 : (xk == 4) = false := by simp [a3]
        clear a3 TD
        go_upto_region 15 with (
          go_at_call 26
          refine TM.out.mono ?_
          rintro e W2 ⟨ec, rfl, ⟨A2, m2, hU⟩, hK⟩
          have U2 := hid hU
          have X2 := hid (hp_kept XX.out hK FL.out.1)
          clear x0 x1 x2 x3 x4 x5
          obtain ⟨x0, x1, x2, x3, x4, x5⟩ : W2.cell? ⟨wr.heap.size, 0, none⟩ = some (.int .i64 xk) ∧ W2.cell? ⟨wr.heap.size, 1, none⟩ = some (.int .i64 xv) ∧ W2.cell? ⟨wr.heap.size, 2, none⟩ = some (.int .i64 xn) ∧ W2.cell? ⟨wr.heap.size, 3, none⟩ = some (.string key) ∧ W2.cell? ⟨wr.heap.size, 4, none⟩ = some (.string to) ∧ W2.cell? ⟨wr.heap.size, 5, none⟩ = some (.string oth) := cells6 X2.out
          clear hU hK TM)
        clear PX XX b3 b4
        have T1 := hid (us_wa (x := ⟨xk, xv, xn, key, to, oth⟩) U2.out (by have := HK.out; omega) HXK.out.1)
        go_upto_region 17 with (first
          | (go_at_call 28
             refine T1.out.mono ?_
             rintro e w3 ⟨rfl, ⟨F', hM⟩, hK⟩
             have T2 := hid (us_wb hM (by have := HK.out; omega) HXK.out.1)
             have X3 := hid (hp_kept X2.out hK FL.out.1)
             clear x0 x1 x2 x3 x4 x5
             obtain ⟨x0, x1, x2, x3, x4, x5⟩ : w3.cell? ⟨wr.heap.size, 0, none⟩ = some (.int .i64 xk) ∧ w3.cell? ⟨wr.heap.size, 1, none⟩ = some (.int .i64 xv) ∧ w3.cell? ⟨wr.heap.size, 2, none⟩ = some (.int .i64 xn) ∧ w3.cell? ⟨wr.heap.size, 3, none⟩ = some (.string key) ∧ w3.cell? ⟨wr.heap.size, 4, none⟩ = some (.string to) ∧ w3.cell? ⟨wr.heap.size, 5, none⟩ = some (.string oth) := cells6 X3.out
             clear hM hK T1)
          | (go_at_call 28
             refine T2.out.mono ?_
             rintro e w4 ⟨rfl, ⟨G', hU⟩, hK⟩
             have U4 := hid hU
             have Xw4 := hid (hp_kept X3.out hK FL.out.2)
             clear x0 x1 x2 x3 x4 x5
             obtain ⟨x0, x1, x2, x3, x4, x5⟩ : w4.cell? ⟨wr.heap.size, 0, none⟩ = some (.int .i64 xk) ∧ w4.cell? ⟨wr.heap.size, 1, none⟩ = some (.int .i64 xv) ∧ w4.cell? ⟨wr.heap.size, 2, none⟩ = some (.int .i64 xn) ∧ w4.cell? ⟨wr.heap.size, 3, none⟩ = some (.string key) ∧ w4.cell? ⟨wr.heap.size, 4, none⟩ = some (.string to) ∧ w4.cell? ⟨wr.heap.size, 5, none⟩ = some (.string oth) := cells6 Xw4.out
             clear hU hK T2))
        generalize wrL ⟨xk, xv, xn, key, to, oth⟩ m2 A2 = A4 at U4
        generalize wrL ⟨xk, xv, xn, key, to, oth⟩ false B = B4 at U4
        have sk : key.size ≤ 50000 ∧ to.size ≤ 50000 := ⟨HXK.out.1, HXK.out.2.1⟩
        have sl : A4.length ≤ 602 ∧ B4.length ≤ 602 := by have := U4.out.na.n; have := U4.out.nb.n; have := HK.out; omega
        have ska : ∀ e ∈ A4, e.1.size ≤ 281474976710000 := fun e he => by have := U4.out.na.k e he; omega
        have skb : ∀ e ∈ B4, e.1.size ≤ 281474976710000 := fun e he => by have := U4.out.nb.k e he; omega
        obtain ⟨q1, q2, -, q4⟩ := us_same U4.out key key to
        obtain ⟨-, -, q3, -⟩ := us_same U4.out to key to
        have Bw4 := hid (Below.refl w4.heap.size w4)
        have GA := hid (show ∀ W, Below w4.heap.size w4 W → _ from fun W hb => vget pa key A4 m2 F' W (U4.out.a.below hb))
        have GB := hid (show ∀ W, Below w4.heap.size w4 W → _ from fun W hb => vget pb key B4 false G' W (U4.out.b.below hb))
        have RA := hid (fun W => srange_any (some ⟨pa, 0, none⟩) key to W (by omega) (by omega))
        have RB_ := hid (fun W => srange_any (some ⟨pb, 0, none⟩) key to W (by omega) (by omega))
        have PA := hid (show ∀ W g1 g2 gp ge, Below w4.heap.size w4 W → RgB W g1 g2 gp ge (some ⟨pa, 0, none⟩) key to → _ from fun W g1 g2 gp ge hb hs => pairs_range (U4.out.a.below hb) (fun j hj => Nat.lt_of_lt_of_le (U4.out.fa j hj) hb.size) hs sl.1 ska (by omega) (by omega))
        have PBB := hid (show ∀ W g1 g2 gp ge, Below w4.heap.size w4 W → RgB W g1 g2 gp ge (some ⟨pb, 0, none⟩) key to → _ from fun W g1 g2 gp ge hb hs => pairs_range (U4.out.b.below hb) (fun j hj => Nat.lt_of_lt_of_le (U4.out.fb j hj) hb.size) hs sl.2 skb (by omega) (by omega))
        have NA := hid (show ∀ W, Below w4.heap.size w4 W → _ from fun W hb => vnext pa to A4 m2 F' W (U4.out.a.below hb) (by omega))
        have NB := hid (show ∀ W, Below w4.heap.size w4 W → _ from fun W hb => vnext pb to B4 false G' W (U4.out.b.below hb) (by omega))
        have LA := hid (show ∀ W, Below w4.heap.size w4 W → _ from fun W hb => vlen pa A4 m2 F' W (U4.out.a.below hb))
        have LB := hid (show ∀ W, Below w4.heap.size w4 W → _ from fun W hb => vlen pb B4 false G' W (U4.out.b.below hb))
        have SB := hid (show ∀ W, Below w4.heap.size w4 W → _ from fun W hb => vslot pb key B4 false G' W (U4.out.b.below hb))
        have SA := hid (show ∀ W, Below w4.heap.size w4 W → _ from fun W hb => vslot pa key A4 m2 F' W (U4.out.a.below hb))
        have MA := hid (show ∀ W, Below w4.heap.size w4 W → _ from fun W hb => vmarked pa A4 m2 F' W (U4.out.a.below hb))
        have YB := hid (show (slotW key B4).2 = (rgetV key B4).2 ∧ ((rgetV key B4).2 = true → (slotW key B4).1.has (slotW key B4).1.r = true ∧ (slotW key B4).1.copy (slotW key B4).1.r = (rgetV key B4).1) from ⟨slot_calm (U4.out.b.calm rfl), fun h => (slot_read h).2⟩)
        have YA := hid (show ((rgetV key B4).2 = true → (slotW key A4).2 = true) ∧ (m2 = false → (slotW key A4).2 = (rgetV key B4).2) from ⟨fun h => (slot_read (by rw [q1]; exact h)).1, fun h => by rw [← q1]; exact slot_calm (U4.out.a.calm h)⟩)
        have TLL := hid (show (kx false (rl false key to B4)).length ≤ 1000000 from by have := kx_len false key to B4; omega)
        simp only [q1] at GA
        simp only [q2] at PA
        simp only [q3] at NA
        simp only [q4] at LA
        clear q1 q2 q3 q4 sk sl ska skb FL
        generalize kx false (rl false key to B4) = T at PA PBB TLL
        generalize rgetV key B4 = gg at GA GB YA YB
        generalize nxP to B4 = nn at NA NB
        generalize ((B4.filter keepP).length : Int) = ln at LA LB
        generalize slotW key B4 = sb at SB YB
        generalize slotW key A4 = sa at SA YA
        obtain ⟨gy, gq⟩ := gg
        obtain ⟨nk, nq⟩ := nn
        obtain ⟨⟨c0, c1, h0, h1', r, wb⟩, kept⟩ := sb
        obtain ⟨⟨d0, d1, i0, i1, rr, ww⟩, hel⟩ := sa
        simp only [Sd.agg] at GA GB NA NB SB SA YA YB
        have f1 : (gy != gy) = false := by simp
        have f2 : (gq != gq) = false := by simp
        have f3 : (ln != ln) = false := by simp
        have f4 : (nk.toList != nk.toList) = false := by simp
        have f5 : (nq != nq) = false := by simp
        have f6 : (nk.toList == nk.toList) = true := by simp
        generalize hzr : bit r = zr at SB
        have HZR := hid hzr
        clear hzr
        generalize bit wb = zw at SB
        generalize bit rr = yr at SA
        generalize bit ww = yw at SA
        go_upto_region 23 with (first
            | (go_at_call 21
               refine (GA.out w4 (Below.refl _ _)).mono ?_
               rintro e w5 ⟨rfl, hb⟩
               have Bw5 := hid (below_on Bw4.out hb)
               have Xw5 := hid (hp_below Xw4.out hb (hp_lt Xw4.out))
               clear x0 x1 x2 x3 x4 x5
               obtain ⟨x0, x1, x2, x3, x4, x5⟩ : w5.cell? ⟨wr.heap.size, 0, none⟩ = some (.int .i64 xk) ∧ w5.cell? ⟨wr.heap.size, 1, none⟩ = some (.int .i64 xv) ∧ w5.cell? ⟨wr.heap.size, 2, none⟩ = some (.int .i64 xn) ∧ w5.cell? ⟨wr.heap.size, 3, none⟩ = some (.string key) ∧ w5.cell? ⟨wr.heap.size, 4, none⟩ = some (.string to) ∧ w5.cell? ⟨wr.heap.size, 5, none⟩ = some (.string oth) := cells6 Xw5.out
               clear hb GA)
            | (go_at_call 21
               refine (GB.out w5 Bw5.out).mono ?_
               rintro e w6 ⟨rfl, hb⟩
               have Bw6 := hid (below_on Bw5.out hb)
               have Xw6 := hid (hp_below Xw5.out hb (hp_lt Xw5.out))
               clear x0 x1 x2 x3 x4 x5
               obtain ⟨x0, x1, x2, x3, x4, x5⟩ : w6.cell? ⟨wr.heap.size, 0, none⟩ = some (.int .i64 xk) ∧ w6.cell? ⟨wr.heap.size, 1, none⟩ = some (.int .i64 xv) ∧ w6.cell? ⟨wr.heap.size, 2, none⟩ = some (.int .i64 xn) ∧ w6.cell? ⟨wr.heap.size, 3, none⟩ = some (.string key) ∧ w6.cell? ⟨wr.heap.size, 4, none⟩ = some (.string to) ∧ w6.cell? ⟨wr.heap.size, 5, none⟩ = some (.string oth) := cells6 Xw6.out
               clear hb GB)
            | (go_at_call 19
               refine (RA.out w6).mono ?_
               rintro e w7 ⟨g1, g2, gp, ge, rfl, hs, hb, -, -, -, -⟩
               have Bw7 := hid (below_on Bw6.out hb)
               have Xw7 := hid (hp_below Xw6.out hb (hp_lt Xw6.out))
               have PP := hid (PA.out w7 g1 g2 gp ge Bw7.out hs)
               clear x0 x1 x2 x3 x4 x5 hb hs RA PA)
            | (go_at_call 29
               refine PP.out.mono ?_
               rintro e w8 ⟨ka, va, rfl, hk, hv, -, hb⟩
               have Bw8 := hid (below_on Bw7.out hb)
               have Xw8 := hid (hp_below Xw7.out hb (hp_lt Xw7.out))
               obtain ⟨x0, x1, x2, x3, x4, x5⟩ : w8.cell? ⟨wr.heap.size, 0, none⟩ = some (.int .i64 xk) ∧ w8.cell? ⟨wr.heap.size, 1, none⟩ = some (.int .i64 xv) ∧ w8.cell? ⟨wr.heap.size, 2, none⟩ = some (.int .i64 xn) ∧ w8.cell? ⟨wr.heap.size, 3, none⟩ = some (.string key) ∧ w8.cell? ⟨wr.heap.size, 4, none⟩ = some (.string to) ∧ w8.cell? ⟨wr.heap.size, 5, none⟩ = some (.string oth) := cells6 Xw8.out
               obtain ⟨ao1, cap1, e1, -, -⟩ := hk.shape
               obtain ⟨ap1, caq1, e2, -, -⟩ := hv.shape
               have R1 := hid (And.intro hk hv)
               generalize T.length = tl at e1 e2
               subst e1 e2
               clear hk hv
               clear hb PP)
            | (go_at_call 19
               refine (RB_.out w8).mono ?_
               rintro e w9 ⟨g1, g2, gp, ge, rfl, hs, hb, -, -, -, -⟩
               have Bw9 := hid (below_on Bw8.out hb)
               have Xw9 := hid (hp_below Xw8.out hb (hp_lt Xw8.out))
               have PQ := hid (PBB.out w9 g1 g2 gp ge Bw9.out hs)
               have R2 := hid (And.intro (R1.out.1.below hb) (R1.out.2.below hb))
               clear x0 x1 x2 x3 x4 x5 hb hs RB_ PBB R1)
            | (go_at_call 29
               refine PQ.out.mono ?_
               rintro e w10 ⟨kb, vb, rfl, hk, hv, -, hb⟩
               have Bw10 := hid (below_on Bw9.out hb)
               have Xw10 := hid (hp_below Xw9.out hb (hp_lt Xw9.out))
               have R3 := hid (And.intro (R2.out.1.below hb) (R2.out.2.below hb))
               obtain ⟨x0, x1, x2, x3, x4, x5⟩ : w10.cell? ⟨wr.heap.size, 0, none⟩ = some (.int .i64 xk) ∧ w10.cell? ⟨wr.heap.size, 1, none⟩ = some (.int .i64 xv) ∧ w10.cell? ⟨wr.heap.size, 2, none⟩ = some (.int .i64 xn) ∧ w10.cell? ⟨wr.heap.size, 3, none⟩ = some (.string key) ∧ w10.cell? ⟨wr.heap.size, 4, none⟩ = some (.string to) ∧ w10.cell? ⟨wr.heap.size, 5, none⟩ = some (.string oth) := cells6 Xw10.out
               obtain ⟨ao4, cap4, e1, -, -⟩ := hk.shape
               obtain ⟨ap4, caq4, e2, -, -⟩ := hv.shape
               have R4 := hid (And.intro hk hv)
               generalize T.length = tl at e1 e2
               subst e1 e2
               clear hk hv
               clear hb PQ R2)
            | (go_at_call 22
               refine (NA.out w10 Bw10.out).mono ?_
               rintro e w11 ⟨rfl, hb⟩
               have Bw11 := hid (below_on Bw10.out hb)
               have Xw11 := hid (hp_below Xw10.out hb (hp_lt Xw10.out))
               clear x0 x1 x2 x3 x4 x5
               obtain ⟨x0, x1, x2, x3, x4, x5⟩ : w11.cell? ⟨wr.heap.size, 0, none⟩ = some (.int .i64 xk) ∧ w11.cell? ⟨wr.heap.size, 1, none⟩ = some (.int .i64 xv) ∧ w11.cell? ⟨wr.heap.size, 2, none⟩ = some (.int .i64 xn) ∧ w11.cell? ⟨wr.heap.size, 3, none⟩ = some (.string key) ∧ w11.cell? ⟨wr.heap.size, 4, none⟩ = some (.string to) ∧ w11.cell? ⟨wr.heap.size, 5, none⟩ = some (.string oth) := cells6 Xw11.out
               have R5 := hid (And.intro (And.intro (R3.out.1.below hb) (R3.out.2.below hb)) (And.intro (R4.out.1.below hb) (R4.out.2.below hb)))
               clear R3 R4
               clear hb NA)
            | (go_at_call 22
               refine (NB.out w11 Bw11.out).mono ?_
               rintro e w12 ⟨rfl, hb⟩
               have Bw12 := hid (below_on Bw11.out hb)
               have Xw12 := hid (hp_below Xw11.out hb (hp_lt Xw11.out))
               clear x0 x1 x2 x3 x4 x5
               obtain ⟨x0, x1, x2, x3, x4, x5⟩ : w12.cell? ⟨wr.heap.size, 0, none⟩ = some (.int .i64 xk) ∧ w12.cell? ⟨wr.heap.size, 1, none⟩ = some (.int .i64 xv) ∧ w12.cell? ⟨wr.heap.size, 2, none⟩ = some (.int .i64 xn) ∧ w12.cell? ⟨wr.heap.size, 3, none⟩ = some (.string key) ∧ w12.cell? ⟨wr.heap.size, 4, none⟩ = some (.string to) ∧ w12.cell? ⟨wr.heap.size, 5, none⟩ = some (.string oth) := cells6 Xw12.out
               have R6 := hid (And.intro (And.intro (R5.out.1.1.below hb) (R5.out.1.2.below hb)) (And.intro (R5.out.2.1.below hb) (R5.out.2.2.below hb)))
               clear R5
               clear hb NB))
        clear x0 x1 x2 x3 x4 x5
        obtain ⟨x0, x1, x2, x3, x4, x5⟩ : w12.cell? ⟨wr.heap.size, 0, none⟩ = some (.int .i64 xk) ∧ w12.cell? ⟨wr.heap.size, 1, none⟩ = some (.int .i64 xv) ∧ w12.cell? ⟨wr.heap.size, 2, none⟩ = some (.int .i64 xn) ∧ w12.cell? ⟨wr.heap.size, 3, none⟩ = some (.string key) ∧ w12.cell? ⟨wr.heap.size, 4, none⟩ = some (.string to) ∧ w12.cell? ⟨wr.heap.size, 5, none⟩ = some (.string oth) := cells6 Xw12.out
        go_upto_region 25 with (first
            | (go_at_call 24
               refine (LA.out w12 Bw12.out).mono ?_
               rintro e w13 ⟨rfl, e13⟩
               rw [e13]
               clear e13 w13 LA)
            | (go_at_call 24
               refine (LB.out w12 Bw12.out).mono ?_
               rintro e w13 ⟨rfl, e13⟩
               rw [e13]
               clear e13 w13 LB)
            | (go_at_call 30
               refine (same_any T _ _ _ _ w12 R6.out.1.1 R6.out.1.2 R6.out.2.1 R6.out.2.2 TLL.out).mono ?_
               rintro e w14 ⟨rfl, hb⟩
               have Bw14 := hid (below_on Bw12.out hb)
               have Xw14 := hid (hp_below Xw12.out hb (hp_lt Xw12.out))
               clear x0 x1 x2 x3 x4 x5
               obtain ⟨x0, x1, x2, x3, x4, x5⟩ : w14.cell? ⟨wr.heap.size, 0, none⟩ = some (.int .i64 xk) ∧ w14.cell? ⟨wr.heap.size, 1, none⟩ = some (.int .i64 xv) ∧ w14.cell? ⟨wr.heap.size, 2, none⟩ = some (.int .i64 xn) ∧ w14.cell? ⟨wr.heap.size, 3, none⟩ = some (.string key) ∧ w14.cell? ⟨wr.heap.size, 4, none⟩ = some (.string to) ∧ w14.cell? ⟨wr.heap.size, 5, none⟩ = some (.string oth) := cells6 Xw14.out
               clear hb R6))
        clear f1 f2 f3 f4 f5 f6
        go_upto_region 26 with (
          go_at_call 23
          refine (SB.out w14 Bw14.out).mono ?_
          rintro e w15 ⟨rfl, hb⟩
          have Bw15 := hid (below_on Bw14.out hb)
          have Xw15 := hid (hp_below Xw14.out hb (hp_lt Xw14.out))
          clear x0 x1 x2 x3 x4 x5 hb SB)
        have B16 := hid (below_on Bw15.out (below_new w15 (.cells #[.int .i64 c0, .int .i64 c1, .bool h0, .bool h1', .int .i64 zr, .int .i64 zw] 56)))
        have X16 := hid (hp_alloc Xw15.out (.cells #[.int .i64 c0, .int .i64 c1, .bool h0, .bool h1', .int .i64 zr, .int .i64 zw] 56))
        have Y16 := hid (hp_new w15 (.cells #[.int .i64 c0, .int .i64 c1, .bool h0, .bool h1', .int .i64 zr, .int .i64 zw] 56))
        clear Bw15 Xw15
        generalize w15.alloc (.cells #[.int .i64 c0, .int .i64 c1, .bool h0, .bool h1', .int .i64 zr, .int .i64 zw] 56) = W16 at B16 X16 Y16 ⊢
        obtain ⟨x0, x1, x2, x3, x4, x5⟩ : W16.cell? ⟨wr.heap.size, 0, none⟩ = some (.int .i64 xk) ∧ W16.cell? ⟨wr.heap.size, 1, none⟩ = some (.int .i64 xv) ∧ W16.cell? ⟨wr.heap.size, 2, none⟩ = some (.int .i64 xn) ∧ W16.cell? ⟨wr.heap.size, 3, none⟩ = some (.string key) ∧ W16.cell? ⟨wr.heap.size, 4, none⟩ = some (.string to) ∧ W16.cell? ⟨wr.heap.size, 5, none⟩ = some (.string oth) := cells6 X16.out
        go_upto_region 27 with (
          go_at_call 23
          refine (SA.out W16 B16.out).mono ?_
          rintro e w17 ⟨rfl, hb⟩
          have B17 := hid (below_on B16.out hb)
          have Y17 := hid (hp_below Y16.out hb (hp_lt Y16.out))
          clear x0 x1 x2 x3 x4 x5 hb SA)
        have B18 := hid (below_on B17.out (below_new w17 (.cells #[.int .i64 d0, .int .i64 d1, .bool i0, .bool i1, .int .i64 yr, .int .i64 yw] 56)))
        have Y18 := hid (hp_alloc Y17.out (.cells #[.int .i64 d0, .int .i64 d1, .bool i0, .bool i1, .int .i64 yr, .int .i64 yw] 56))
        clear B17 Y17 X16 Y16 B16
        generalize w17.alloc (.cells #[.int .i64 d0, .int .i64 d1, .bool i0, .bool i1, .int .i64 yr, .int .i64 yw] 56) = W18 at B18 Y18 ⊢
        obtain ⟨u0, u1, u2, u3, u4, u5⟩ := cells6 Y18.out
        obtain ⟨yb1, yb2⟩ := YB.out
        obtain ⟨ya1, ya2⟩ := YA.out
        have hzr := HZR.out
        try simp only at yb1 yb2 ya1 ya2
        clear YA YB HZR Y18
        subst yb1
        cases kept
        · clear ya1 yb2 hzr
          cases m2
          · obtain rfl : hel = false := ya2 rfl
            clear ya2
            have hk200 : k + 1 ≤ 200 := by have := HK.out; omega
            go_wp2_with (
              go_at_call 25
              refine (MA.out W18 B18.out).mono ?_
              rintro e w19 ⟨rfl, e19⟩
              rw [e19]
              clear e19 w19)
            go_roundw
            case rel => exact ⟨k + 1, _, _, _, _, _, by go_num, HK.out.1, hid (U4.out.below B18.out)⟩
            case measure => simp [intOf]; omega
          · clear ya2
            have hk200 : k + 1 ≤ 200 := by have := HK.out; omega
            go_wp2_with (
              go_at_call 25
              refine (MA.out W18 B18.out).mono ?_
              rintro e w19 ⟨rfl, e19⟩
              rw [e19]
              clear e19 w19)
            go_roundw
            case rel => exact ⟨k + 1, _, _, _, _, _, by go_num, HK.out.1, hid (U4.out.below B18.out)⟩
            case measure => simp [intOf]; omega
        · obtain rfl : hel = true := ya1 rfl
          obtain ⟨yh, yc⟩ := yb2 rfl
          have t1 : (true != true) = false := rfl
          clear ya1 ya2 yb2
          cases r
          · obtain rfl : h0 = true := yh
            obtain rfl : c0 = gy := yc
            obtain rfl : (0 : Int) = zr := hzr
            try clear yh
            try clear yc
            try clear hzr
            have f1 : (c0 != c0) = false := by simp
            cases m2
            · have hk200 : k + 1 ≤ 200 := by have := HK.out; omega
              go_wp2_with (
                go_at_call 25
                refine (MA.out W18 B18.out).mono ?_
                rintro e w19 ⟨rfl, e19⟩
                rw [e19]
                clear e19 w19)
              go_roundw
              case rel => exact ⟨k + 1, _, _, _, _, _, by go_num, HK.out.1, hid (U4.out.below B18.out)⟩
              case measure => simp [intOf]; omega
            · have hk200 : k + 1 ≤ 200 := by have := HK.out; omega
              go_wp2_with (
                go_at_call 25
                refine (MA.out W18 B18.out).mono ?_
                rintro e w19 ⟨rfl, e19⟩
                rw [e19]
                clear e19 w19)
              go_roundw
              case rel => exact ⟨k + 1, _, _, _, _, _, by go_num, HK.out.1, hid (U4.out.below B18.out)⟩
              case measure => simp [intOf]; omega
          · obtain rfl : h1' = true := yh
            obtain rfl : c1 = gy := yc
            obtain rfl : (1 : Int) = zr := hzr
            try clear yh
            try clear yc
            try clear hzr
            have f1 : (c1 != c1) = false := by simp
            cases m2
            · have hk200 : k + 1 ≤ 200 := by have := HK.out; omega
              go_wp2_with (
                go_at_call 25
                refine (MA.out W18 B18.out).mono ?_
                rintro e w19 ⟨rfl, e19⟩
                rw [e19]
                clear e19 w19)
              go_roundw
              case rel => exact ⟨k + 1, _, _, _, _, _, by go_num, HK.out.1, hid (U4.out.below B18.out)⟩
              case measure => simp [intOf]; omega
            · have hk200 : k + 1 ≤ 200 := by have := HK.out; omega
              go_wp2_with (
                go_at_call 25
                refine (MA.out W18 B18.out).mono ?_
                rintro e w19 ⟨rfl, e19⟩
                rw [e19]
                clear e19 w19)
              go_roundw
              case rel => exact ⟨k + 1, _, _, _, _, _, by go_num, HK.out.1, hid (U4.out.below B18.out)⟩
              case measure => simp [intOf]; omega
      · as_aux_lemma =>
        have b3 : (xk == 3) = false := by simp [a4]
        have b4 : (xk == 4) = true := by simp [a4]
        clear a4 TM
        go_upto_region 15 with (
          go_at_call 27
          refine TD.out.mono ?_
          rintro e W2 ⟨ec, rfl, ⟨A2, m2, hU⟩, hK⟩
          have U2 := hid hU
          have X2 := hid (hp_kept XX.out hK FL.out.1)
          clear x0 x1 x2 x3 x4 x5
          obtain ⟨x0, x1, x2, x3, x4, x5⟩ : W2.cell? ⟨wr.heap.size, 0, none⟩ = some (.int .i64 xk) ∧ W2.cell? ⟨wr.heap.size, 1, none⟩ = some (.int .i64 xv) ∧ W2.cell? ⟨wr.heap.size, 2, none⟩ = some (.int .i64 xn) ∧ W2.cell? ⟨wr.heap.size, 3, none⟩ = some (.string key) ∧ W2.cell? ⟨wr.heap.size, 4, none⟩ = some (.string to) ∧ W2.cell? ⟨wr.heap.size, 5, none⟩ = some (.string oth) := cells6 X2.out
          clear hU hK TD)
        clear PX XX b3 b4
        have T1 := hid (us_wa (x := ⟨xk, xv, xn, key, to, oth⟩) U2.out (by have := HK.out; omega) HXK.out.1)
        go_upto_region 17 with (first
          | (go_at_call 28
             refine T1.out.mono ?_
             rintro e w3 ⟨rfl, ⟨F', hM⟩, hK⟩
             have T2 := hid (us_wb hM (by have := HK.out; omega) HXK.out.1)
             have X3 := hid (hp_kept X2.out hK FL.out.1)
             clear x0 x1 x2 x3 x4 x5
             obtain ⟨x0, x1, x2, x3, x4, x5⟩ : w3.cell? ⟨wr.heap.size, 0, none⟩ = some (.int .i64 xk) ∧ w3.cell? ⟨wr.heap.size, 1, none⟩ = some (.int .i64 xv) ∧ w3.cell? ⟨wr.heap.size, 2, none⟩ = some (.int .i64 xn) ∧ w3.cell? ⟨wr.heap.size, 3, none⟩ = some (.string key) ∧ w3.cell? ⟨wr.heap.size, 4, none⟩ = some (.string to) ∧ w3.cell? ⟨wr.heap.size, 5, none⟩ = some (.string oth) := cells6 X3.out
             clear hM hK T1)
          | (go_at_call 28
             refine T2.out.mono ?_
             rintro e w4 ⟨rfl, ⟨G', hU⟩, hK⟩
             have U4 := hid hU
             have Xw4 := hid (hp_kept X3.out hK FL.out.2)
             clear x0 x1 x2 x3 x4 x5
             obtain ⟨x0, x1, x2, x3, x4, x5⟩ : w4.cell? ⟨wr.heap.size, 0, none⟩ = some (.int .i64 xk) ∧ w4.cell? ⟨wr.heap.size, 1, none⟩ = some (.int .i64 xv) ∧ w4.cell? ⟨wr.heap.size, 2, none⟩ = some (.int .i64 xn) ∧ w4.cell? ⟨wr.heap.size, 3, none⟩ = some (.string key) ∧ w4.cell? ⟨wr.heap.size, 4, none⟩ = some (.string to) ∧ w4.cell? ⟨wr.heap.size, 5, none⟩ = some (.string oth) := cells6 Xw4.out
             clear hU hK T2))
        generalize wrL ⟨xk, xv, xn, key, to, oth⟩ m2 A2 = A4 at U4
        generalize wrL ⟨xk, xv, xn, key, to, oth⟩ false B = B4 at U4
        have sk : key.size ≤ 50000 ∧ to.size ≤ 50000 := ⟨HXK.out.1, HXK.out.2.1⟩
        have sl : A4.length ≤ 602 ∧ B4.length ≤ 602 := by have := U4.out.na.n; have := U4.out.nb.n; have := HK.out; omega
        have ska : ∀ e ∈ A4, e.1.size ≤ 281474976710000 := fun e he => by have := U4.out.na.k e he; omega
        have skb : ∀ e ∈ B4, e.1.size ≤ 281474976710000 := fun e he => by have := U4.out.nb.k e he; omega
        obtain ⟨q1, q2, -, q4⟩ := us_same U4.out key key to
        obtain ⟨-, -, q3, -⟩ := us_same U4.out to key to
        have Bw4 := hid (Below.refl w4.heap.size w4)
        have GA := hid (show ∀ W, Below w4.heap.size w4 W → _ from fun W hb => vget pa key A4 m2 F' W (U4.out.a.below hb))
        have GB := hid (show ∀ W, Below w4.heap.size w4 W → _ from fun W hb => vget pb key B4 false G' W (U4.out.b.below hb))
        have RA := hid (fun W => srange_any (some ⟨pa, 0, none⟩) key to W (by omega) (by omega))
        have RB_ := hid (fun W => srange_any (some ⟨pb, 0, none⟩) key to W (by omega) (by omega))
        have PA := hid (show ∀ W g1 g2 gp ge, Below w4.heap.size w4 W → RgB W g1 g2 gp ge (some ⟨pa, 0, none⟩) key to → _ from fun W g1 g2 gp ge hb hs => pairs_range (U4.out.a.below hb) (fun j hj => Nat.lt_of_lt_of_le (U4.out.fa j hj) hb.size) hs sl.1 ska (by omega) (by omega))
        have PBB := hid (show ∀ W g1 g2 gp ge, Below w4.heap.size w4 W → RgB W g1 g2 gp ge (some ⟨pb, 0, none⟩) key to → _ from fun W g1 g2 gp ge hb hs => pairs_range (U4.out.b.below hb) (fun j hj => Nat.lt_of_lt_of_le (U4.out.fb j hj) hb.size) hs sl.2 skb (by omega) (by omega))
        have NA := hid (show ∀ W, Below w4.heap.size w4 W → _ from fun W hb => vnext pa to A4 m2 F' W (U4.out.a.below hb) (by omega))
        have NB := hid (show ∀ W, Below w4.heap.size w4 W → _ from fun W hb => vnext pb to B4 false G' W (U4.out.b.below hb) (by omega))
        have LA := hid (show ∀ W, Below w4.heap.size w4 W → _ from fun W hb => vlen pa A4 m2 F' W (U4.out.a.below hb))
        have LB := hid (show ∀ W, Below w4.heap.size w4 W → _ from fun W hb => vlen pb B4 false G' W (U4.out.b.below hb))
        have SB := hid (show ∀ W, Below w4.heap.size w4 W → _ from fun W hb => vslot pb key B4 false G' W (U4.out.b.below hb))
        have SA := hid (show ∀ W, Below w4.heap.size w4 W → _ from fun W hb => vslot pa key A4 m2 F' W (U4.out.a.below hb))
        have MA := hid (show ∀ W, Below w4.heap.size w4 W → _ from fun W hb => vmarked pa A4 m2 F' W (U4.out.a.below hb))
        have YB := hid (show (slotW key B4).2 = (rgetV key B4).2 ∧ ((rgetV key B4).2 = true → (slotW key B4).1.has (slotW key B4).1.r = true ∧ (slotW key B4).1.copy (slotW key B4).1.r = (rgetV key B4).1) from ⟨slot_calm (U4.out.b.calm rfl), fun h => (slot_read h).2⟩)
        have YA := hid (show ((rgetV key B4).2 = true → (slotW key A4).2 = true) ∧ (m2 = false → (slotW key A4).2 = (rgetV key B4).2) from ⟨fun h => (slot_read (by rw [q1]; exact h)).1, fun h => by rw [← q1]; exact slot_calm (U4.out.a.calm h)⟩)
        have TLL := hid (show (kx false (rl false key to B4)).length ≤ 1000000 from by have := kx_len false key to B4; omega)
        simp only [q1] at GA
        simp only [q2] at PA
        simp only [q3] at NA
        simp only [q4] at LA
        clear q1 q2 q3 q4 sk sl ska skb FL
        generalize kx false (rl false key to B4) = T at PA PBB TLL
        generalize rgetV key B4 = gg at GA GB YA YB
        generalize nxP to B4 = nn at NA NB
        generalize ((B4.filter keepP).length : Int) = ln at LA LB
        generalize slotW key B4 = sb at SB YB
        generalize slotW key A4 = sa at SA YA
        obtain ⟨gy, gq⟩ := gg
        obtain ⟨nk, nq⟩ := nn
        obtain ⟨⟨c0, c1, h0, h1', r, wb⟩, kept⟩ := sb
        obtain ⟨⟨d0, d1, i0, i1, rr, ww⟩, hel⟩ := sa
        simp only [Sd.agg] at GA GB NA NB SB SA YA YB
        have f1 : (gy != gy) = false := by simp
        have f2 : (gq != gq) = false := by simp
        have f3 : (ln != ln) = false := by simp
        have f4 : (nk.toList != nk.toList) = false := by simp
        have f5 : (nq != nq) = false := by simp
        have f6 : (nk.toList == nk.toList) = true := by simp
        generalize hzr : bit r = zr at SB
        have HZR := hid hzr
        clear hzr
        generalize bit wb = zw at SB
        generalize bit rr = yr at SA
        generalize bit ww = yw at SA
        go_upto_region 23 with (first
            | (go_at_call 21
               refine (GA.out w4 (Below.refl _ _)).mono ?_
               rintro e w5 ⟨rfl, hb⟩
               have Bw5 := hid (below_on Bw4.out hb)
               have Xw5 := hid (hp_below Xw4.out hb (hp_lt Xw4.out))
               clear x0 x1 x2 x3 x4 x5
               obtain ⟨x0, x1, x2, x3, x4, x5⟩ : w5.cell? ⟨wr.heap.size, 0, none⟩ = some (.int .i64 xk) ∧ w5.cell? ⟨wr.heap.size, 1, none⟩ = some (.int .i64 xv) ∧ w5.cell? ⟨wr.heap.size, 2, none⟩ = some (.int .i64 xn) ∧ w5.cell? ⟨wr.heap.size, 3, none⟩ = some (.string key) ∧ w5.cell? ⟨wr.heap.size, 4, none⟩ = some (.string to) ∧ w5.cell? ⟨wr.heap.size, 5, none⟩ = some (.string oth) := cells6 Xw5.out
               clear hb GA)
            | (go_at_call 21
               refine (GB.out w5 Bw5.out).mono ?_
               rintro e w6 ⟨rfl, hb⟩
               have Bw6 := hid (below_on Bw5.out hb)
               have Xw6 := hid (hp_below Xw5.out hb (hp_lt Xw5.out))
               clear x0 x1 x2 x3 x4 x5
               obtain ⟨x0, x1, x2, x3, x4, x5⟩ : w6.cell? ⟨wr.heap.size, 0, none⟩ = some (.int .i64 xk) ∧ w6.cell? ⟨wr.heap.size, 1, none⟩ = some (.int .i64 xv) ∧ w6.cell? ⟨wr.heap.size, 2, none⟩ = some (.int .i64 xn) ∧ w6.cell? ⟨wr.heap.size, 3, none⟩ = some (.string key) ∧ w6.cell? ⟨wr.heap.size, 4, none⟩ = some (.string to) ∧ w6.cell? ⟨wr.heap.size, 5, none⟩ = some (.string oth) := cells6 Xw6.out
               clear hb GB)
            | (go_at_call 19
               refine (RA.out w6).mono ?_
               rintro e w7 ⟨g1, g2, gp, ge, rfl, hs, hb, -, -, -, -⟩
               have Bw7 := hid (below_on Bw6.out hb)
               have Xw7 := hid (hp_below Xw6.out hb (hp_lt Xw6.out))
               have PP := hid (PA.out w7 g1 g2 gp ge Bw7.out hs)
               clear x0 x1 x2 x3 x4 x5 hb hs RA PA)
            | (go_at_call 29
               refine PP.out.mono ?_
               rintro e w8 ⟨ka, va, rfl, hk, hv, -, hb⟩
               have Bw8 := hid (below_on Bw7.out hb)
               have Xw8 := hid (hp_below Xw7.out hb (hp_lt Xw7.out))
               obtain ⟨x0, x1, x2, x3, x4, x5⟩ : w8.cell? ⟨wr.heap.size, 0, none⟩ = some (.int .i64 xk) ∧ w8.cell? ⟨wr.heap.size, 1, none⟩ = some (.int .i64 xv) ∧ w8.cell? ⟨wr.heap.size, 2, none⟩ = some (.int .i64 xn) ∧ w8.cell? ⟨wr.heap.size, 3, none⟩ = some (.string key) ∧ w8.cell? ⟨wr.heap.size, 4, none⟩ = some (.string to) ∧ w8.cell? ⟨wr.heap.size, 5, none⟩ = some (.string oth) := cells6 Xw8.out
               obtain ⟨ao1, cap1, e1, -, -⟩ := hk.shape
               obtain ⟨ap1, caq1, e2, -, -⟩ := hv.shape
               have R1 := hid (And.intro hk hv)
               generalize T.length = tl at e1 e2
               subst e1 e2
               clear hk hv
               clear hb PP)
            | (go_at_call 19
               refine (RB_.out w8).mono ?_
               rintro e w9 ⟨g1, g2, gp, ge, rfl, hs, hb, -, -, -, -⟩
               have Bw9 := hid (below_on Bw8.out hb)
               have Xw9 := hid (hp_below Xw8.out hb (hp_lt Xw8.out))
               have PQ := hid (PBB.out w9 g1 g2 gp ge Bw9.out hs)
               have R2 := hid (And.intro (R1.out.1.below hb) (R1.out.2.below hb))
               clear x0 x1 x2 x3 x4 x5 hb hs RB_ PBB R1)
            | (go_at_call 29
               refine PQ.out.mono ?_
               rintro e w10 ⟨kb, vb, rfl, hk, hv, -, hb⟩
               have Bw10 := hid (below_on Bw9.out hb)
               have Xw10 := hid (hp_below Xw9.out hb (hp_lt Xw9.out))
               have R3 := hid (And.intro (R2.out.1.below hb) (R2.out.2.below hb))
               obtain ⟨x0, x1, x2, x3, x4, x5⟩ : w10.cell? ⟨wr.heap.size, 0, none⟩ = some (.int .i64 xk) ∧ w10.cell? ⟨wr.heap.size, 1, none⟩ = some (.int .i64 xv) ∧ w10.cell? ⟨wr.heap.size, 2, none⟩ = some (.int .i64 xn) ∧ w10.cell? ⟨wr.heap.size, 3, none⟩ = some (.string key) ∧ w10.cell? ⟨wr.heap.size, 4, none⟩ = some (.string to) ∧ w10.cell? ⟨wr.heap.size, 5, none⟩ = some (.string oth) := cells6 Xw10.out
               obtain ⟨ao4, cap4, e1, -, -⟩ := hk.shape
               obtain ⟨ap4, caq4, e2, -, -⟩ := hv.shape
               have R4 := hid (And.intro hk hv)
               generalize T.length = tl at e1 e2
               subst e1 e2
               clear hk hv
               clear hb PQ R2)
            | (go_at_call 22
               refine (NA.out w10 Bw10.out).mono ?_
               rintro e w11 ⟨rfl, hb⟩
               have Bw11 := hid (below_on Bw10.out hb)
               have Xw11 := hid (hp_below Xw10.out hb (hp_lt Xw10.out))
               clear x0 x1 x2 x3 x4 x5
               obtain ⟨x0, x1, x2, x3, x4, x5⟩ : w11.cell? ⟨wr.heap.size, 0, none⟩ = some (.int .i64 xk) ∧ w11.cell? ⟨wr.heap.size, 1, none⟩ = some (.int .i64 xv) ∧ w11.cell? ⟨wr.heap.size, 2, none⟩ = some (.int .i64 xn) ∧ w11.cell? ⟨wr.heap.size, 3, none⟩ = some (.string key) ∧ w11.cell? ⟨wr.heap.size, 4, none⟩ = some (.string to) ∧ w11.cell? ⟨wr.heap.size, 5, none⟩ = some (.string oth) := cells6 Xw11.out
               have R5 := hid (And.intro (And.intro (R3.out.1.below hb) (R3.out.2.below hb)) (And.intro (R4.out.1.below hb) (R4.out.2.below hb)))
               clear R3 R4
               clear hb NA)
            | (go_at_call 22
               refine (NB.out w11 Bw11.out).mono ?_
               rintro e w12 ⟨rfl, hb⟩
               have Bw12 := hid (below_on Bw11.out hb)
               have Xw12 := hid (hp_below Xw11.out hb (hp_lt Xw11.out))
               clear x0 x1 x2 x3 x4 x5
               obtain ⟨x0, x1, x2, x3, x4, x5⟩ : w12.cell? ⟨wr.heap.size, 0, none⟩ = some (.int .i64 xk) ∧ w12.cell? ⟨wr.heap.size, 1, none⟩ = some (.int .i64 xv) ∧ w12.cell? ⟨wr.heap.size, 2, none⟩ = some (.int .i64 xn) ∧ w12.cell? ⟨wr.heap.size, 3, none⟩ = some (.string key) ∧ w12.cell? ⟨wr.heap.size, 4, none⟩ = some (.string to) ∧ w12.cell? ⟨wr.heap.size, 5, none⟩ = some (.string oth) := cells6 Xw12.out
               have R6 := hid (And.intro (And.intro (R5.out.1.1.below hb) (R5.out.1.2.below hb)) (And.intro (R5.out.2.1.below hb) (R5.out.2.2.below hb)))
               clear R5
               clear hb NB))
        clear x0 x1 x2 x3 x4 x5
        obtain ⟨x0, x1, x2, x3, x4, x5⟩ : w12.cell? ⟨wr.heap.size, 0, none⟩ = some (.int .i64 xk) ∧ w12.cell? ⟨wr.heap.size, 1, none⟩ = some (.int .i64 xv) ∧ w12.cell? ⟨wr.heap.size, 2, none⟩ = some (.int .i64 xn) ∧ w12.cell? ⟨wr.heap.size, 3, none⟩ = some (.string key) ∧ w12.cell? ⟨wr.heap.size, 4, none⟩ = some (.string to) ∧ w12.cell? ⟨wr.heap.size, 5, none⟩ = some (.string oth) := cells6 Xw12.out
        go_upto_region 25 with (first
            | (go_at_call 24
               refine (LA.out w12 Bw12.out).mono ?_
               rintro e w13 ⟨rfl, e13⟩
               rw [e13]
               clear e13 w13 LA)
            | (go_at_call 24
               refine (LB.out w12 Bw12.out).mono ?_
               rintro e w13 ⟨rfl, e13⟩
               rw [e13]
               clear e13 w13 LB)
            | (go_at_call 30
               refine (same_any T _ _ _ _ w12 R6.out.1.1 R6.out.1.2 R6.out.2.1 R6.out.2.2 TLL.out).mono ?_
               rintro e w14 ⟨rfl, hb⟩
               have Bw14 := hid (below_on Bw12.out hb)
               have Xw14 := hid (hp_below Xw12.out hb (hp_lt Xw12.out))
               clear x0 x1 x2 x3 x4 x5
               obtain ⟨x0, x1, x2, x3, x4, x5⟩ : w14.cell? ⟨wr.heap.size, 0, none⟩ = some (.int .i64 xk) ∧ w14.cell? ⟨wr.heap.size, 1, none⟩ = some (.int .i64 xv) ∧ w14.cell? ⟨wr.heap.size, 2, none⟩ = some (.int .i64 xn) ∧ w14.cell? ⟨wr.heap.size, 3, none⟩ = some (.string key) ∧ w14.cell? ⟨wr.heap.size, 4, none⟩ = some (.string to) ∧ w14.cell? ⟨wr.heap.size, 5, none⟩ = some (.string oth) := cells6 Xw14.out
               clear hb R6))
        clear f1 f2 f3 f4 f5 f6
        go_upto_region 26 with (
          go_at_call 23
          refine (SB.out w14 Bw14.out).mono ?_
          rintro e w15 ⟨rfl, hb⟩
          have Bw15 := hid (below_on Bw14.out hb)
          have Xw15 := hid (hp_below Xw14.out hb (hp_lt Xw14.out))
          clear x0 x1 x2 x3 x4 x5 hb SB)
        have B16 := hid (below_on Bw15.out (below_new w15 (.cells #[.int .i64 c0, .int .i64 c1, .bool h0, .bool h1', .int .i64 zr, .int .i64 zw] 56)))
        have X16 := hid (hp_alloc Xw15.out (.cells #[.int .i64 c0, .int .i64 c1, .bool h0, .bool h1', .int .i64 zr, .int .i64 zw] 56))
        have Y16 := hid (hp_new w15 (.cells #[.int .i64 c0, .int .i64 c1, .bool h0, .bool h1', .int .i64 zr, .int .i64 zw] 56))
        clear Bw15 Xw15
        generalize w15.alloc (.cells #[.int .i64 c0, .int .i64 c1, .bool h0, .bool h1', .int .i64 zr, .int .i64 zw] 56) = W16 at B16 X16 Y16 ⊢
        obtain ⟨x0, x1, x2, x3, x4, x5⟩ : W16.cell? ⟨wr.heap.size, 0, none⟩ = some (.int .i64 xk) ∧ W16.cell? ⟨wr.heap.size, 1, none⟩ = some (.int .i64 xv) ∧ W16.cell? ⟨wr.heap.size, 2, none⟩ = some (.int .i64 xn) ∧ W16.cell? ⟨wr.heap.size, 3, none⟩ = some (.string key) ∧ W16.cell? ⟨wr.heap.size, 4, none⟩ = some (.string to) ∧ W16.cell? ⟨wr.heap.size, 5, none⟩ = some (.string oth) := cells6 X16.out
        go_upto_region 27 with (
          go_at_call 23
          refine (SA.out W16 B16.out).mono ?_
          rintro e w17 ⟨rfl, hb⟩
          have B17 := hid (below_on B16.out hb)
          have Y17 := hid (hp_below Y16.out hb (hp_lt Y16.out))
          clear x0 x1 x2 x3 x4 x5 hb SA)
        have B18 := hid (below_on B17.out (below_new w17 (.cells #[.int .i64 d0, .int .i64 d1, .bool i0, .bool i1, .int .i64 yr, .int .i64 yw] 56)))
        have Y18 := hid (hp_alloc Y17.out (.cells #[.int .i64 d0, .int .i64 d1, .bool i0, .bool i1, .int .i64 yr, .int .i64 yw] 56))
        clear B17 Y17 X16 Y16 B16
        generalize w17.alloc (.cells #[.int .i64 d0, .int .i64 d1, .bool i0, .bool i1, .int .i64 yr, .int .i64 yw] 56) = W18 at B18 Y18 ⊢
        obtain ⟨u0, u1, u2, u3, u4, u5⟩ := cells6 Y18.out
        obtain ⟨yb1, yb2⟩ := YB.out
        obtain ⟨ya1, ya2⟩ := YA.out
        have hzr := HZR.out
        try simp only at yb1 yb2 ya1 ya2
        clear YA YB HZR Y18
        subst yb1
        cases kept
        · clear ya1 yb2 hzr
          cases m2
          · obtain rfl : hel = false := ya2 rfl
            clear ya2
            have hk200 : k + 1 ≤ 200 := by have := HK.out; omega
            go_wp2_with (
              go_at_call 25
              refine (MA.out W18 B18.out).mono ?_
              rintro e w19 ⟨rfl, e19⟩
              rw [e19]
              clear e19 w19)
            go_roundw
            case rel => exact ⟨k + 1, _, _, _, _, _, by go_num, HK.out.1, hid (U4.out.below B18.out)⟩
            case measure => simp [intOf]; omega
          · clear ya2
            have hk200 : k + 1 ≤ 200 := by have := HK.out; omega
            go_wp2_with (
              go_at_call 25
              refine (MA.out W18 B18.out).mono ?_
              rintro e w19 ⟨rfl, e19⟩
              rw [e19]
              clear e19 w19)
            go_roundw
            case rel => exact ⟨k + 1, _, _, _, _, _, by go_num, HK.out.1, hid (U4.out.below B18.out)⟩
            case measure => simp [intOf]; omega
        · obtain rfl : hel = true := ya1 rfl
          obtain ⟨yh, yc⟩ := yb2 rfl
          have t1 : (true != true) = false := rfl
          clear ya1 ya2 yb2
          cases r
          · obtain rfl : h0 = true := yh
            obtain rfl : c0 = gy := yc
            obtain rfl : (0 : Int) = zr := hzr
            try clear yh
            try clear yc
            try clear hzr
            have f1 : (c0 != c0) = false := by simp
            cases m2
            · have hk200 : k + 1 ≤ 200 := by have := HK.out; omega
              go_wp2_with (
                go_at_call 25
                refine (MA.out W18 B18.out).mono ?_
                rintro e w19 ⟨rfl, e19⟩
                rw [e19]
                clear e19 w19)
              go_roundw
              case rel => exact ⟨k + 1, _, _, _, _, _, by go_num, HK.out.1, hid (U4.out.below B18.out)⟩
              case measure => simp [intOf]; omega
            · have hk200 : k + 1 ≤ 200 := by have := HK.out; omega
              go_wp2_with (
                go_at_call 25
                refine (MA.out W18 B18.out).mono ?_
                rintro e w19 ⟨rfl, e19⟩
                rw [e19]
                clear e19 w19)
              go_roundw
              case rel => exact ⟨k + 1, _, _, _, _, _, by go_num, HK.out.1, hid (U4.out.below B18.out)⟩
              case measure => simp [intOf]; omega
          · obtain rfl : h1' = true := yh
            obtain rfl : c1 = gy := yc
            obtain rfl : (1 : Int) = zr := hzr
            try clear yh
            try clear yc
            try clear hzr
            have f1 : (c1 != c1) = false := by simp
            cases m2
            · have hk200 : k + 1 ≤ 200 := by have := HK.out; omega
              go_wp2_with (
                go_at_call 25
                refine (MA.out W18 B18.out).mono ?_
                rintro e w19 ⟨rfl, e19⟩
                rw [e19]
                clear e19 w19)
              go_roundw
              case rel => exact ⟨k + 1, _, _, _, _, _, by go_num, HK.out.1, hid (U4.out.below B18.out)⟩
              case measure => simp [intOf]; omega
            · have hk200 : k + 1 ≤ 200 := by have := HK.out; omega
              go_wp2_with (
                go_at_call 25
                refine (MA.out W18 B18.out).mono ?_
                rintro e w19 ⟨rfl, e19⟩
                rw [e19]
                clear e19 w19)
              go_roundw
              case rel => exact ⟨k + 1, _, _, _, _, _, by go_num, HK.out.1, hid (U4.out.below B18.out)⟩
              case measure => simp [intOf]; omega
      · as_aux_lemma =>
        clear TM TD
        go_upto_region 15 with fail
        obtain ⟨A2, hA2⟩ : ∃ a, a = A := ⟨_, rfl⟩
        obtain ⟨m2, hm2⟩ : ∃ a, a = m := ⟨_, rfl⟩
        obtain ⟨W2, hW2⟩ : ∃ a, a = Wx := ⟨_, rfl⟩
        subst hA2 hm2 hW2
        have U2 := PX
        have X2 := XX
        clear PX XX b3 b4
        have T1 := hid (us_wa (x := ⟨xk, xv, xn, key, to, oth⟩) U2.out (by have := HK.out; omega) HXK.out.1)
        go_upto_region 17 with (first
          | (go_at_call 28
             refine T1.out.mono ?_
             rintro e w3 ⟨rfl, ⟨F', hM⟩, hK⟩
             have T2 := hid (us_wb hM (by have := HK.out; omega) HXK.out.1)
             have X3 := hid (hp_kept X2.out hK FL.out.1)
             clear x0 x1 x2 x3 x4 x5
             obtain ⟨x0, x1, x2, x3, x4, x5⟩ : w3.cell? ⟨wr.heap.size, 0, none⟩ = some (.int .i64 xk) ∧ w3.cell? ⟨wr.heap.size, 1, none⟩ = some (.int .i64 xv) ∧ w3.cell? ⟨wr.heap.size, 2, none⟩ = some (.int .i64 xn) ∧ w3.cell? ⟨wr.heap.size, 3, none⟩ = some (.string key) ∧ w3.cell? ⟨wr.heap.size, 4, none⟩ = some (.string to) ∧ w3.cell? ⟨wr.heap.size, 5, none⟩ = some (.string oth) := cells6 X3.out
             clear hM hK T1)
          | (go_at_call 28
             refine T2.out.mono ?_
             rintro e w4 ⟨rfl, ⟨G', hU⟩, hK⟩
             have U4 := hid hU
             have Xw4 := hid (hp_kept X3.out hK FL.out.2)
             clear x0 x1 x2 x3 x4 x5
             obtain ⟨x0, x1, x2, x3, x4, x5⟩ : w4.cell? ⟨wr.heap.size, 0, none⟩ = some (.int .i64 xk) ∧ w4.cell? ⟨wr.heap.size, 1, none⟩ = some (.int .i64 xv) ∧ w4.cell? ⟨wr.heap.size, 2, none⟩ = some (.int .i64 xn) ∧ w4.cell? ⟨wr.heap.size, 3, none⟩ = some (.string key) ∧ w4.cell? ⟨wr.heap.size, 4, none⟩ = some (.string to) ∧ w4.cell? ⟨wr.heap.size, 5, none⟩ = some (.string oth) := cells6 Xw4.out
             clear hU hK T2))
        generalize wrL ⟨xk, xv, xn, key, to, oth⟩ m2 A2 = A4 at U4
        generalize wrL ⟨xk, xv, xn, key, to, oth⟩ false B = B4 at U4
        have sk : key.size ≤ 50000 ∧ to.size ≤ 50000 := ⟨HXK.out.1, HXK.out.2.1⟩
        have sl : A4.length ≤ 602 ∧ B4.length ≤ 602 := by have := U4.out.na.n; have := U4.out.nb.n; have := HK.out; omega
        have ska : ∀ e ∈ A4, e.1.size ≤ 281474976710000 := fun e he => by have := U4.out.na.k e he; omega
        have skb : ∀ e ∈ B4, e.1.size ≤ 281474976710000 := fun e he => by have := U4.out.nb.k e he; omega
        obtain ⟨q1, q2, -, q4⟩ := us_same U4.out key key to
        obtain ⟨-, -, q3, -⟩ := us_same U4.out to key to
        have Bw4 := hid (Below.refl w4.heap.size w4)
        have GA := hid (show ∀ W, Below w4.heap.size w4 W → _ from fun W hb => vget pa key A4 m2 F' W (U4.out.a.below hb))
        have GB := hid (show ∀ W, Below w4.heap.size w4 W → _ from fun W hb => vget pb key B4 false G' W (U4.out.b.below hb))
        have RA := hid (fun W => srange_any (some ⟨pa, 0, none⟩) key to W (by omega) (by omega))
        have RB_ := hid (fun W => srange_any (some ⟨pb, 0, none⟩) key to W (by omega) (by omega))
        have PA := hid (show ∀ W g1 g2 gp ge, Below w4.heap.size w4 W → RgB W g1 g2 gp ge (some ⟨pa, 0, none⟩) key to → _ from fun W g1 g2 gp ge hb hs => pairs_range (U4.out.a.below hb) (fun j hj => Nat.lt_of_lt_of_le (U4.out.fa j hj) hb.size) hs sl.1 ska (by omega) (by omega))
        have PBB := hid (show ∀ W g1 g2 gp ge, Below w4.heap.size w4 W → RgB W g1 g2 gp ge (some ⟨pb, 0, none⟩) key to → _ from fun W g1 g2 gp ge hb hs => pairs_range (U4.out.b.below hb) (fun j hj => Nat.lt_of_lt_of_le (U4.out.fb j hj) hb.size) hs sl.2 skb (by omega) (by omega))
        have NA := hid (show ∀ W, Below w4.heap.size w4 W → _ from fun W hb => vnext pa to A4 m2 F' W (U4.out.a.below hb) (by omega))
        have NB := hid (show ∀ W, Below w4.heap.size w4 W → _ from fun W hb => vnext pb to B4 false G' W (U4.out.b.below hb) (by omega))
        have LA := hid (show ∀ W, Below w4.heap.size w4 W → _ from fun W hb => vlen pa A4 m2 F' W (U4.out.a.below hb))
        have LB := hid (show ∀ W, Below w4.heap.size w4 W → _ from fun W hb => vlen pb B4 false G' W (U4.out.b.below hb))
        have SB := hid (show ∀ W, Below w4.heap.size w4 W → _ from fun W hb => vslot pb key B4 false G' W (U4.out.b.below hb))
        have SA := hid (show ∀ W, Below w4.heap.size w4 W → _ from fun W hb => vslot pa key A4 m2 F' W (U4.out.a.below hb))
        have MA := hid (show ∀ W, Below w4.heap.size w4 W → _ from fun W hb => vmarked pa A4 m2 F' W (U4.out.a.below hb))
        have YB := hid (show (slotW key B4).2 = (rgetV key B4).2 ∧ ((rgetV key B4).2 = true → (slotW key B4).1.has (slotW key B4).1.r = true ∧ (slotW key B4).1.copy (slotW key B4).1.r = (rgetV key B4).1) from ⟨slot_calm (U4.out.b.calm rfl), fun h => (slot_read h).2⟩)
        have YA := hid (show ((rgetV key B4).2 = true → (slotW key A4).2 = true) ∧ (m2 = false → (slotW key A4).2 = (rgetV key B4).2) from ⟨fun h => (slot_read (by rw [q1]; exact h)).1, fun h => by rw [← q1]; exact slot_calm (U4.out.a.calm h)⟩)
        have TLL := hid (show (kx false (rl false key to B4)).length ≤ 1000000 from by have := kx_len false key to B4; omega)
        simp only [q1] at GA
        simp only [q2] at PA
        simp only [q3] at NA
        simp only [q4] at LA
        clear q1 q2 q3 q4 sk sl ska skb FL
        generalize kx false (rl false key to B4) = T at PA PBB TLL
        generalize rgetV key B4 = gg at GA GB YA YB
        generalize nxP to B4 = nn at NA NB
        generalize ((B4.filter keepP).length : Int) = ln at LA LB
        generalize slotW key B4 = sb at SB YB
        generalize slotW key A4 = sa at SA YA
        obtain ⟨gy, gq⟩ := gg
        obtain ⟨nk, nq⟩ := nn
        obtain ⟨⟨c0, c1, h0, h1', r, wb⟩, kept⟩ := sb
        obtain ⟨⟨d0, d1, i0, i1, rr, ww⟩, hel⟩ := sa
        simp only [Sd.agg] at GA GB NA NB SB SA YA YB
        have f1 : (gy != gy) = false := by simp
        have f2 : (gq != gq) = false := by simp
        have f3 : (ln != ln) = false := by simp
        have f4 : (nk.toList != nk.toList) = false := by simp
        have f5 : (nq != nq) = false := by simp
        have f6 : (nk.toList == nk.toList) = true := by simp
        generalize hzr : bit r = zr at SB
        have HZR := hid hzr
        clear hzr
        generalize bit wb = zw at SB
        generalize bit rr = yr at SA
        generalize bit ww = yw at SA
        go_upto_region 23 with (first
            | (go_at_call 21
               refine (GA.out w4 (Below.refl _ _)).mono ?_
               rintro e w5 ⟨rfl, hb⟩
               have Bw5 := hid (below_on Bw4.out hb)
               have Xw5 := hid (hp_below Xw4.out hb (hp_lt Xw4.out))
               clear x0 x1 x2 x3 x4 x5
               obtain ⟨x0, x1, x2, x3, x4, x5⟩ : w5.cell? ⟨wr.heap.size, 0, none⟩ = some (.int .i64 xk) ∧ w5.cell? ⟨wr.heap.size, 1, none⟩ = some (.int .i64 xv) ∧ w5.cell? ⟨wr.heap.size, 2, none⟩ = some (.int .i64 xn) ∧ w5.cell? ⟨wr.heap.size, 3, none⟩ = some (.string key) ∧ w5.cell? ⟨wr.heap.size, 4, none⟩ = some (.string to) ∧ w5.cell? ⟨wr.heap.size, 5, none⟩ = some (.string oth) := cells6 Xw5.out
               clear hb GA)
            | (go_at_call 21
               refine (GB.out w5 Bw5.out).mono ?_
               rintro e w6 ⟨rfl, hb⟩
               have Bw6 := hid (below_on Bw5.out hb)
               have Xw6 := hid (hp_below Xw5.out hb (hp_lt Xw5.out))
               clear x0 x1 x2 x3 x4 x5
               obtain ⟨x0, x1, x2, x3, x4, x5⟩ : w6.cell? ⟨wr.heap.size, 0, none⟩ = some (.int .i64 xk) ∧ w6.cell? ⟨wr.heap.size, 1, none⟩ = some (.int .i64 xv) ∧ w6.cell? ⟨wr.heap.size, 2, none⟩ = some (.int .i64 xn) ∧ w6.cell? ⟨wr.heap.size, 3, none⟩ = some (.string key) ∧ w6.cell? ⟨wr.heap.size, 4, none⟩ = some (.string to) ∧ w6.cell? ⟨wr.heap.size, 5, none⟩ = some (.string oth) := cells6 Xw6.out
               clear hb GB)
            | (go_at_call 19
               refine (RA.out w6).mono ?_
               rintro e w7 ⟨g1, g2, gp, ge, rfl, hs, hb, -, -, -, -⟩
               have Bw7 := hid (below_on Bw6.out hb)
               have Xw7 := hid (hp_below Xw6.out hb (hp_lt Xw6.out))
               have PP := hid (PA.out w7 g1 g2 gp ge Bw7.out hs)
               clear x0 x1 x2 x3 x4 x5 hb hs RA PA)
            | (go_at_call 29
               refine PP.out.mono ?_
               rintro e w8 ⟨ka, va, rfl, hk, hv, -, hb⟩
               have Bw8 := hid (below_on Bw7.out hb)
               have Xw8 := hid (hp_below Xw7.out hb (hp_lt Xw7.out))
               obtain ⟨x0, x1, x2, x3, x4, x5⟩ : w8.cell? ⟨wr.heap.size, 0, none⟩ = some (.int .i64 xk) ∧ w8.cell? ⟨wr.heap.size, 1, none⟩ = some (.int .i64 xv) ∧ w8.cell? ⟨wr.heap.size, 2, none⟩ = some (.int .i64 xn) ∧ w8.cell? ⟨wr.heap.size, 3, none⟩ = some (.string key) ∧ w8.cell? ⟨wr.heap.size, 4, none⟩ = some (.string to) ∧ w8.cell? ⟨wr.heap.size, 5, none⟩ = some (.string oth) := cells6 Xw8.out
               obtain ⟨ao1, cap1, e1, -, -⟩ := hk.shape
               obtain ⟨ap1, caq1, e2, -, -⟩ := hv.shape
               have R1 := hid (And.intro hk hv)
               generalize T.length = tl at e1 e2
               subst e1 e2
               clear hk hv
               clear hb PP)
            | (go_at_call 19
               refine (RB_.out w8).mono ?_
               rintro e w9 ⟨g1, g2, gp, ge, rfl, hs, hb, -, -, -, -⟩
               have Bw9 := hid (below_on Bw8.out hb)
               have Xw9 := hid (hp_below Xw8.out hb (hp_lt Xw8.out))
               have PQ := hid (PBB.out w9 g1 g2 gp ge Bw9.out hs)
               have R2 := hid (And.intro (R1.out.1.below hb) (R1.out.2.below hb))
               clear x0 x1 x2 x3 x4 x5 hb hs RB_ PBB R1)
            | (go_at_call 29
               refine PQ.out.mono ?_
               rintro e w10 ⟨kb, vb, rfl, hk, hv, -, hb⟩
               have Bw10 := hid (below_on Bw9.out hb)
               have Xw10 := hid (hp_below Xw9.out hb (hp_lt Xw9.out))
               have R3 := hid (And.intro (R2.out.1.below hb) (R2.out.2.below hb))
               obtain ⟨x0, x1, x2, x3, x4, x5⟩ : w10.cell? ⟨wr.heap.size, 0, none⟩ = some (.int .i64 xk) ∧ w10.cell? ⟨wr.heap.size, 1, none⟩ = some (.int .i64 xv) ∧ w10.cell? ⟨wr.heap.size, 2, none⟩ = some (.int .i64 xn) ∧ w10.cell? ⟨wr.heap.size, 3, none⟩ = some (.string key) ∧ w10.cell? ⟨wr.heap.size, 4, none⟩ = some (.string to) ∧ w10.cell? ⟨wr.heap.size, 5, none⟩ = some (.string oth) := cells6 Xw10.out
               obtain ⟨ao4, cap4, e1, -, -⟩ := hk.shape
               obtain ⟨ap4, caq4, e2, -, -⟩ := hv.shape
               have R4 := hid (And.intro hk hv)
               generalize T.length = tl at e1 e2
               subst e1 e2
               clear hk hv
               clear hb PQ R2)
            | (go_at_call 22
               refine (NA.out w10 Bw10.out).mono ?_
               rintro e w11 ⟨rfl, hb⟩
               have Bw11 := hid (below_on Bw10.out hb)
               have Xw11 := hid (hp_below Xw10.out hb (hp_lt Xw10.out))
               clear x0 x1 x2 x3 x4 x5
               obtain ⟨x0, x1, x2, x3, x4, x5⟩ : w11.cell? ⟨wr.heap.size, 0, none⟩ = some (.int .i64 xk) ∧ w11.cell? ⟨wr.heap.size, 1, none⟩ = some (.int .i64 xv) ∧ w11.cell? ⟨wr.heap.size, 2, none⟩ = some (.int .i64 xn) ∧ w11.cell? ⟨wr.heap.size, 3, none⟩ = some (.string key) ∧ w11.cell? ⟨wr.heap.size, 4, none⟩ = some (.string to) ∧ w11.cell? ⟨wr.heap.size, 5, none⟩ = some (.string oth) := cells6 Xw11.out
               have R5 := hid (And.intro (And.intro (R3.out.1.below hb) (R3.out.2.below hb)) (And.intro (R4.out.1.below hb) (R4.out.2.below hb)))
               clear R3 R4
               clear hb NA)
            | (go_at_call 22
               refine (NB.out w11 Bw11.out).mono ?_
               rintro e w12 ⟨rfl, hb⟩
               have Bw12 := hid (below_on Bw11.out hb)
               have Xw12 := hid (hp_below Xw11.out hb (hp_lt Xw11.out))
               clear x0 x1 x2 x3 x4 x5
               obtain ⟨x0, x1, x2, x3, x4, x5⟩ : w12.cell? ⟨wr.heap.size, 0, none⟩ = some (.int .i64 xk) ∧ w12.cell? ⟨wr.heap.size, 1, none⟩ = some (.int .i64 xv) ∧ w12.cell? ⟨wr.heap.size, 2, none⟩ = some (.int .i64 xn) ∧ w12.cell? ⟨wr.heap.size, 3, none⟩ = some (.string key) ∧ w12.cell? ⟨wr.heap.size, 4, none⟩ = some (.string to) ∧ w12.cell? ⟨wr.heap.size, 5, none⟩ = some (.string oth) := cells6 Xw12.out
               have R6 := hid (And.intro (And.intro (R5.out.1.1.below hb) (R5.out.1.2.below hb)) (And.intro (R5.out.2.1.below hb) (R5.out.2.2.below hb)))
               clear R5
               clear hb NB))
        clear x0 x1 x2 x3 x4 x5
        obtain ⟨x0, x1, x2, x3, x4, x5⟩ : w12.cell? ⟨wr.heap.size, 0, none⟩ = some (.int .i64 xk) ∧ w12.cell? ⟨wr.heap.size, 1, none⟩ = some (.int .i64 xv) ∧ w12.cell? ⟨wr.heap.size, 2, none⟩ = some (.int .i64 xn) ∧ w12.cell? ⟨wr.heap.size, 3, none⟩ = some (.string key) ∧ w12.cell? ⟨wr.heap.size, 4, none⟩ = some (.string to) ∧ w12.cell? ⟨wr.heap.size, 5, none⟩ = some (.string oth) := cells6 Xw12.out
        go_upto_region 25 with (first
            | (go_at_call 24
               refine (LA.out w12 Bw12.out).mono ?_
               rintro e w13 ⟨rfl, e13⟩
               rw [e13]
               clear e13 w13 LA)
            | (go_at_call 24
               refine (LB.out w12 Bw12.out).mono ?_
               rintro e w13 ⟨rfl, e13⟩
               rw [e13]
               clear e13 w13 LB)
            | (go_at_call 30
               refine (same_any T _ _ _ _ w12 R6.out.1.1 R6.out.1.2 R6.out.2.1 R6.out.2.2 TLL.out).mono ?_
               rintro e w14 ⟨rfl, hb⟩
               have Bw14 := hid (below_on Bw12.out hb)
               have Xw14 := hid (hp_below Xw12.out hb (hp_lt Xw12.out))
               clear x0 x1 x2 x3 x4 x5
               obtain ⟨x0, x1, x2, x3, x4, x5⟩ : w14.cell? ⟨wr.heap.size, 0, none⟩ = some (.int .i64 xk) ∧ w14.cell? ⟨wr.heap.size, 1, none⟩ = some (.int .i64 xv) ∧ w14.cell? ⟨wr.heap.size, 2, none⟩ = some (.int .i64 xn) ∧ w14.cell? ⟨wr.heap.size, 3, none⟩ = some (.string key) ∧ w14.cell? ⟨wr.heap.size, 4, none⟩ = some (.string to) ∧ w14.cell? ⟨wr.heap.size, 5, none⟩ = some (.string oth) := cells6 Xw14.out
               clear hb R6))
        clear f1 f2 f3 f4 f5 f6
        go_upto_region 26 with (
          go_at_call 23
          refine (SB.out w14 Bw14.out).mono ?_
          rintro e w15 ⟨rfl, hb⟩
          have Bw15 := hid (below_on Bw14.out hb)
          have Xw15 := hid (hp_below Xw14.out hb (hp_lt Xw14.out))
          clear x0 x1 x2 x3 x4 x5 hb SB)
        have B16 := hid (below_on Bw15.out (below_new w15 (.cells #[.int .i64 c0, .int .i64 c1, .bool h0, .bool h1', .int .i64 zr, .int .i64 zw] 56)))
        have X16 := hid (hp_alloc Xw15.out (.cells #[.int .i64 c0, .int .i64 c1, .bool h0, .bool h1', .int .i64 zr, .int .i64 zw] 56))
        have Y16 := hid (hp_new w15 (.cells #[.int .i64 c0, .int .i64 c1, .bool h0, .bool h1', .int .i64 zr, .int .i64 zw] 56))
        clear Bw15 Xw15
        generalize w15.alloc (.cells #[.int .i64 c0, .int .i64 c1, .bool h0, .bool h1', .int .i64 zr, .int .i64 zw] 56) = W16 at B16 X16 Y16 ⊢
        obtain ⟨x0, x1, x2, x3, x4, x5⟩ : W16.cell? ⟨wr.heap.size, 0, none⟩ = some (.int .i64 xk) ∧ W16.cell? ⟨wr.heap.size, 1, none⟩ = some (.int .i64 xv) ∧ W16.cell? ⟨wr.heap.size, 2, none⟩ = some (.int .i64 xn) ∧ W16.cell? ⟨wr.heap.size, 3, none⟩ = some (.string key) ∧ W16.cell? ⟨wr.heap.size, 4, none⟩ = some (.string to) ∧ W16.cell? ⟨wr.heap.size, 5, none⟩ = some (.string oth) := cells6 X16.out
        go_upto_region 27 with (
          go_at_call 23
          refine (SA.out W16 B16.out).mono ?_
          rintro e w17 ⟨rfl, hb⟩
          have B17 := hid (below_on B16.out hb)
          have Y17 := hid (hp_below Y16.out hb (hp_lt Y16.out))
          clear x0 x1 x2 x3 x4 x5 hb SA)
        have B18 := hid (below_on B17.out (below_new w17 (.cells #[.int .i64 d0, .int .i64 d1, .bool i0, .bool i1, .int .i64 yr, .int .i64 yw] 56)))
        have Y18 := hid (hp_alloc Y17.out (.cells #[.int .i64 d0, .int .i64 d1, .bool i0, .bool i1, .int .i64 yr, .int .i64 yw] 56))
        clear B17 Y17 X16 Y16 B16
        generalize w17.alloc (.cells #[.int .i64 d0, .int .i64 d1, .bool i0, .bool i1, .int .i64 yr, .int .i64 yw] 56) = W18 at B18 Y18 ⊢
        obtain ⟨u0, u1, u2, u3, u4, u5⟩ := cells6 Y18.out
        obtain ⟨yb1, yb2⟩ := YB.out
        obtain ⟨ya1, ya2⟩ := YA.out
        have hzr := HZR.out
        try simp only at yb1 yb2 ya1 ya2
        clear YA YB HZR Y18
        subst yb1
        cases kept
        · clear ya1 yb2 hzr
          cases m2
          · obtain rfl : hel = false := ya2 rfl
            clear ya2
            have hk200 : k + 1 ≤ 200 := by have := HK.out; omega
            go_wp2_with (
              go_at_call 25
              refine (MA.out W18 B18.out).mono ?_
              rintro e w19 ⟨rfl, e19⟩
              rw [e19]
              clear e19 w19)
            go_roundw
            case rel => exact ⟨k + 1, _, _, _, _, _, by go_num, HK.out.1, hid (U4.out.below B18.out)⟩
            case measure => simp [intOf]; omega
          · clear ya2
            have hk200 : k + 1 ≤ 200 := by have := HK.out; omega
            go_wp2_with (
              go_at_call 25
              refine (MA.out W18 B18.out).mono ?_
              rintro e w19 ⟨rfl, e19⟩
              rw [e19]
              clear e19 w19)
            go_roundw
            case rel => exact ⟨k + 1, _, _, _, _, _, by go_num, HK.out.1, hid (U4.out.below B18.out)⟩
            case measure => simp [intOf]; omega
        · obtain rfl : hel = true := ya1 rfl
          obtain ⟨yh, yc⟩ := yb2 rfl
          have t1 : (true != true) = false := rfl
          clear ya1 ya2 yb2
          cases r
          · obtain rfl : h0 = true := yh
            obtain rfl : c0 = gy := yc
            obtain rfl : (0 : Int) = zr := hzr
            try clear yh
            try clear yc
            try clear hzr
            have f1 : (c0 != c0) = false := by simp
            cases m2
            · have hk200 : k + 1 ≤ 200 := by have := HK.out; omega
              go_wp2_with (
                go_at_call 25
                refine (MA.out W18 B18.out).mono ?_
                rintro e w19 ⟨rfl, e19⟩
                rw [e19]
                clear e19 w19)
              go_roundw
              case rel => exact ⟨k + 1, _, _, _, _, _, by go_num, HK.out.1, hid (U4.out.below B18.out)⟩
              case measure => simp [intOf]; omega
            · have hk200 : k + 1 ≤ 200 := by have := HK.out; omega
              go_wp2_with (
                go_at_call 25
                refine (MA.out W18 B18.out).mono ?_
                rintro e w19 ⟨rfl, e19⟩
                rw [e19]
                clear e19 w19)
              go_roundw
              case rel => exact ⟨k + 1, _, _, _, _, _, by go_num, HK.out.1, hid (U4.out.below B18.out)⟩
              case measure => simp [intOf]; omega
          · obtain rfl : h1' = true := yh
            obtain rfl : c1 = gy := yc
            obtain rfl : (1 : Int) = zr := hzr
            try clear yh
            try clear yc
            try clear hzr
            have f1 : (c1 != c1) = false := by simp
            cases m2
            · have hk200 : k + 1 ≤ 200 := by have := HK.out; omega
              go_wp2_with (
                go_at_call 25
                refine (MA.out W18 B18.out).mono ?_
                rintro e w19 ⟨rfl, e19⟩
                rw [e19]
                clear e19 w19)
              go_roundw
              case rel => exact ⟨k + 1, _, _, _, _, _, by go_num, HK.out.1, hid (U4.out.below B18.out)⟩
              case measure => simp [intOf]; omega
            · have hk200 : k + 1 ≤ 200 := by have := HK.out; omega
              go_wp2_with (
                go_at_call 25
                refine (MA.out W18 B18.out).mono ?_
                rintro e w19 ⟨rfl, e19⟩
                rw [e19]
                clear e19 w19)
              go_roundw
              case rel => exact ⟨k + 1, _, _, _, _, _, by go_num, HK.out.1, hid (U4.out.below B18.out)⟩
              case measure => simp [intOf]; omega
    · have h1k : (ys.length : Int) ≤ k := by omega
      clear hks HR U0
      go_wp2_with (
        go_at_call 10
        refine (KN.out wr).mono ?_
        rintro e w9 ⟨rfl, hb9⟩
        have B9 := hid (below_on hp.out.be hb9)
        clear hb9)
      go_ret
      exact ⟨rfl, B9.out⟩

end Go.Proofs.Ythjggbcppgbdoaa
