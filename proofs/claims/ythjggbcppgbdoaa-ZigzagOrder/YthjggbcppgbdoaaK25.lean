import Derived.Test.YthjggbcppgbdoaaK24
namespace Go.Proofs.Ythjggbcppgbdoaa
open Go.RowKit

theorem much_or (sv : Value) (ys : List Sp) (w : World) (hr : Rf w 6 sv ys.length (ys.flatMap Sp.cl)) (hys : ∀ y ∈ ys, y.key.size ≤ 140737488355328 ∧ y.to.size ≤ 140737488355328 ∧ y.other.size ≤ 140737488355328) :
    Calls Try.prog 9 #[sv] w fun x w' => (x = .returned (.bool true) ∧ Below w.heap.size w w') ∨ (x = .returned (.bool false) ∧ Sm ys ∧ Below w.heap.size w w') := by
  refine (much_any sv ys w hr hys).mono ?_
  rintro x w' ⟨b, rfl, hs, hb⟩
  cases b
  · exact .inr ⟨rfl, hs rfl, hb⟩
  · exact .inl ⟨rfl, hb⟩

theorem pp_new {w W : World} {p1 p2 bw : Nat} (h1 : ZV W p1 [] false (fun j => j = p1)) (h2 : ZV W p2 [] false (fun j => j = p2)) (hx : W.heap[bw]? = some (.cells #[.slice none 0 0, .bool false] 34 (0, 0))) (l1 : p1 < W.heap.size) (l2 : p2 < W.heap.size) (d : p1 ≠ p2) (d1 : bw ≠ p1) (d2 : bw ≠ p2) (n1 : w.heap.size ≤ p1) (n2 : w.heap.size ≤ p2) (n3 : w.heap.size ≤ bw) (hb : Below w.heap.size w W) :
    Pp w bw p1 p2 (.slice none 0 0) false [] 0 (fun j => j = p1) (fun j => j = p2) W :=
  ⟨⟨h1, ⟨rf_nil _ _, fun _ => rfl⟩, fun j hj => (by simp [Value.ownBlock] at hj), fun j hj => by subst hj; exact l1⟩, h2, fun j hj => (by simp [Value.ownBlock] at hj), fun j hj => by subst hj; exact l2, fun j hj e => d (hj.symm.trans e), fun j hj => by subst hj; exact n1, fun j hj => by subst hj; exact n2, hx, d1, d2, n3, ⟨by simp, fun e he => (by cases he)⟩, hb⟩

set_option maxRecDepth 100000 in
set_option maxHeartbeats 8000000 in
theorem zplays_any (sv : Value) (ys : List Sp) (w : World) (hr : Rf w 6 sv ys.length (ys.flatMap Sp.cl)) (hys : ∀ y ∈ ys, y.key.size ≤ 140737488355328 ∧ y.to.size ≤ 140737488355328 ∧ y.other.size ≤ 140737488355328) :
    Calls Try.prog 3 #[sv] w fun x w' => x = .returned (.bool true) ∧ Below w.heap.size w w' := by
  obtain ⟨ao, cap, e, -, -⟩ := hr.shape
  have KN := hid known_any
  have MU := hid (much_or sv ys w hr hys)
  have HR := hid hr
  subst e
  clear hr hys
  go_enter Try.func3, Try.ntmps3
  go_upto_region 3 with (first
    | (go_at_call 9
       refine MU.out.mono ?_
       rintro e w1 (⟨rfl, hb⟩ | ⟨rfl, hsm, hb⟩)
       all_goals first
         | (have SM := hid hsm
            have B1 := hid hb
            clear hsm hb MU)
         | (have B1 := hid hb
            clear hb MU))
    | (go_at_call 10
       refine (KN.out _).mono ?_
       rintro e wk ⟨rfl, hbk⟩
       have BK := hid (below_on B1.out hbk)
       clear hbk))
  · go_ret
    exact ⟨rfl, BK.out⟩
  have NW := hid (vnew w1)
  go_upto_region 8 with (
    go_at_call 11
    refine NW.out.mono ?_
    rintro e w2 ⟨rfl, hz, hb, hsz⟩
    have Z2 := hid hz
    have B2 := hid hb
    have S2 := hid hsz
    clear hz hb hsz NW)
  obtain ⟨q1, q2, qb⟩ := two w2 (.cells #[.pointer none, .int .i64 0, .int .i64 0, .bool false] 31) (.cells #[.slice none 0 0, .bool false] 34)
  have P0 := hid (pp_new (w := w) (Z2.out.below qb) (zv_zero q1) q2 (by have := S2.out; have := qb.size; omega) (hp_lt q1) (by have := S2.out; omega) (by have := S2.out; omega) (by omega) (B1.out.size) (by have := S2.out; have := B1.out.size; omega) (by have := S2.out; have := B1.out.size; omega) (below_on (below_on B1.out B2.out) qb))
  clear q1 q2 qb Z2 B2 S2 B1
  generalize (w2.alloc (.cells #[.pointer none, .int .i64 0, .int .i64 0, .bool false] 31)).alloc (.cells #[.slice none 0 0, .bool false] 34) = W4 at P0 ⊢
  generalize w2.heap.size + 1 = bw at P0 ⊢
  generalize w2.heap.size = p2 at P0 ⊢
  generalize w1.heap.size = p1 at P0 ⊢
  go_wp2_with fail
  go_loopw [6] (fun i wr => ∃ (k : Nat) (v : Value) (m : Bool) (l : List Pl) (F1 F2 : Nat → Prop), i = .int .i64 k ∧ k ≤ ys.length ∧ Hid (Pp w bw p1 p2 v m l (201 * k) F1 F2 wr)) (fun i _ => ys.length - (intOf i).toNat)
  case atStart => exact ⟨0, _, _, _, _, _, rfl, Nat.zero_le _, P0⟩
  case round =>
    obtain ⟨k, v, m, l, F1, F2, rfl, hk, hp⟩ := hrel
    have hks := SM.out.n
    obtain ⟨ao1, cap1, ev, -, -⟩ := hp.out.s.r.1.shape
    generalize hln : l.length = ln at ev
    clear hln
    subst ev
    by_cases h1 : k < ys.length
    · obtain ⟨g, off, cap', e, -, -, hcell⟩ := (HR.out.below hp.out.be).lits (by omega) (by omega)
      injection e with e1 _ e3
      subst e1 e3
      obtain ⟨x, hxe⟩ : ∃ x, ys[k] = x := ⟨_, rfl⟩
      have hxk := SM.out.k x (by rw [← hxe]; exact List.getElem_mem h1)
      have hfl : ∀ c u, c < 6 → x.cl[c]? = some u → (ys.flatMap Sp.cl)[k * 6 + c]? = some u := fun c u hc hu => by
        rw [flat_get Sp.cl 6 Sp.len ys k c hc, List.getElem?_eq_getElem h1, hxe]
        exact hu
      have v0 := hcell _ _ (hfl 0 _ (by omega) rfl)
      have v1 := hcell _ _ (hfl 1 _ (by omega) rfl)
      have v2 := hcell _ _ (hfl 2 _ (by omega) rfl)
      have v3 := hcell _ _ (hfl 3 _ (by omega) rfl)
      have v4 := hcell _ _ (hfl 4 _ (by omega) rfl)
      have v5 := hcell _ _ (hfl 5 _ (by omega) rfl)
      simp only [Nat.add_zero, ← Nat.add_assoc] at v0 v1 v2 v3 v4 v5
      have h1k : (k : Int) < ys.length := by omega
      obtain ⟨xk, xv, xn, key, to, oth⟩ := x
      simp only at hxk v0 v1 v2 v3 v4 v5
      have HXK := hid hxk
      have HK := hid (show k + 1 ≤ ys.length ∧ ys.length ≤ 200 from ⟨h1, hks⟩)
      clear hcell hfl hxe hxk hks P0
      go_upto_region 12 with fail
      have PX := hid (hp.out.below (below_new wr (.cells #[.int .i64 xk, .int .i64 xv, .int .i64 xn, .string key, .string to, .string oth] 36)))
      have XX := hid (hp_new wr (.cells #[.int .i64 xk, .int .i64 xv, .int .i64 xn, .string key, .string to, .string oth] 36))
      have FL := hid (show ∀ j, F1 j → j < wr.heap.size from hp.out.s.fl)
      have FL2 := hid (show ∀ j, F2 j → j < wr.heap.size from hp.out.zl)
      clear v0 v1 v2 v3 v4 v5 hp
      generalize wr.alloc (.cells #[.int .i64 xk, .int .i64 xv, .int .i64 xn, .string key, .string to, .string oth] 36) = Wx at PX XX ⊢
      have T1 := hid (pp_step1 (x := ⟨xk, xv, xn, key, to, oth⟩) PX.out (by have := HK.out; omega) HXK.out.2.2 HXK.out.2.1 HXK.out.1)
      obtain ⟨c0, c1⟩ := cells2 PX.out.bx
      obtain ⟨x0, x1, x2, x3, x4, x5⟩ : Wx.cell? ⟨wr.heap.size, 0, none⟩ = some (.int .i64 xk) ∧ Wx.cell? ⟨wr.heap.size, 1, none⟩ = some (.int .i64 xv) ∧ Wx.cell? ⟨wr.heap.size, 2, none⟩ = some (.int .i64 xn) ∧ Wx.cell? ⟨wr.heap.size, 3, none⟩ = some (.string key) ∧ Wx.cell? ⟨wr.heap.size, 4, none⟩ = some (.string to) ∧ Wx.cell? ⟨wr.heap.size, 5, none⟩ = some (.string oth) := cells6 XX.out
      go_upto_region 13 with (
        go_at_call 12
        refine T1.out.mono ?_
        rintro e w2 ⟨v1, rfl, G1, G2, hQ, hK1, hG2⟩
        obtain ⟨ao2, cap2, eu, -, -⟩ := hQ.s.r.1.shape
        generalize (_ : List Pl).length = n2 at eu
        subst eu
        have X2 := hid (hp_kept XX.out hK1 (fun hf => by have := FL.out _ hf; omega))
        have FG := hid (show ∀ j, G2 j → j < w2.heap.size from hQ.z.fl)
        have QQ := hid hQ
        have GG := hid hG2
        clear hG2 hQ hK1 T1 x0 x1 x2 x3 x4 x5 c0 c1)
      have Q3 := hid (QQ.out.below (below_new w2 (.cells #[.slice ao2 n2 cap2, .bool (stepL ⟨xk, xv, xn, key, to, oth⟩ l m).2] 34)))
      have X3 := hid (hp_alloc X2.out (.cells #[.slice ao2 n2 cap2, .bool (stepL ⟨xk, xv, xn, key, to, oth⟩ l m).2] 34))
      have N3 := hid (hp_new w2 (.cells #[.slice ao2 n2 cap2, .bool (stepL ⟨xk, xv, xn, key, to, oth⟩ l m).2] 34))
      have LX := hid (show wr.heap.size < w2.heap.size from hp_lt X2.out)
      clear QQ X2 XX
      generalize w2.alloc (.cells #[.slice ao2 n2 cap2, .bool (stepL ⟨xk, xv, xn, key, to, oth⟩ l m).2] 34) = W3 at Q3 X3 N3 ⊢
      have T2 := hid (pp_step2 (x := ⟨xk, xv, xn, key, to, oth⟩) Q3.out (by have := HK.out; omega) HXK.out.2.2 HXK.out.2.1 HXK.out.1)
      obtain ⟨c0, c1⟩ := cells2 Q3.out.bx
      obtain ⟨x0, x1, x2, x3, x4, x5⟩ : W3.cell? ⟨wr.heap.size, 0, none⟩ = some (.int .i64 xk) ∧ W3.cell? ⟨wr.heap.size, 1, none⟩ = some (.int .i64 xv) ∧ W3.cell? ⟨wr.heap.size, 2, none⟩ = some (.int .i64 xn) ∧ W3.cell? ⟨wr.heap.size, 3, none⟩ = some (.string key) ∧ W3.cell? ⟨wr.heap.size, 4, none⟩ = some (.string to) ∧ W3.cell? ⟨wr.heap.size, 5, none⟩ = some (.string oth) := cells6 X3.out
      have NG := hid (show ¬ G2 wr.heap.size ∧ ¬ G2 w2.heap.size from ⟨fun hf => by have := FL2.out _ (GG.out _ hf); omega, fun hf => by have := FG.out _ hf; omega⟩)
      go_upto_region 14 with (
        go_at_call 12
        refine T2.out.mono ?_
        rintro e w4 ⟨v2, rfl, ⟨kk, hr2⟩, G3, hQ2, hK2⟩
        obtain ⟨ao3, cap3, eu, -, -⟩ := hr2.1.shape
        generalize (_ : List Pl).length = n3 at eu
        subst eu
        have X4 := hid (hp_kept X3.out hK2 NG.out.1)
        have N4 := hid (hp_kept N3.out hK2 NG.out.2)
        have QQ := hid hQ2
        clear hQ2 hK2 hr2 T2 x0 x1 x2 x3 x4 x5 c0 c1)
      have Q5 := hid (QQ.out.below (below_new w4 (.cells #[.slice ao3 n3 cap3, .bool (stepL ⟨xk, xv, xn, key, to, oth⟩ l m).2] 34)))
      have X5 := hid (hp_alloc X4.out (.cells #[.slice ao3 n3 cap3, .bool (stepL ⟨xk, xv, xn, key, to, oth⟩ l m).2] 34))
      have N5 := hid (hp_alloc N4.out (.cells #[.slice ao3 n3 cap3, .bool (stepL ⟨xk, xv, xn, key, to, oth⟩ l m).2] 34))
      clear QQ X4 N4 X3 N3 Q3 NG PX FG GG FL FL2
      generalize w4.alloc (.cells #[.slice ao3 n3 cap3, .bool (stepL ⟨xk, xv, xn, key, to, oth⟩ l m).2] 34) = W5 at Q5 X5 N5 ⊢
      obtain ⟨c0, c1⟩ := cells2 Q5.out.bx
      obtain ⟨d0, d1⟩ := cells2 N5.out
      have fw : ∀ j, W5.frozen? ⟨bw, j, none⟩ = false := fun j => free_of_block Q5.out.bx
      have NX := hid (show wr.heap.size ≠ bw from fun e => by have := X5.out; rw [e, Q5.out.bx] at this; cases this)
      go_upto_region 15 with fail
      have P6 := hid (pp_lay Q5.out HXK.out.2.2 HXK.out.1)
      have X6 := hid (hp_set (hp_set X5.out NX.out (.slice ao2 n2 cap2) (p := ⟨bw, 0, none⟩)) NX.out (.bool (stepL ⟨xk, xv, xn, key, to, oth⟩ l m).2) (p := ⟨bw, 1, none⟩))
      clear Q5 X5 N5 c0 c1 d0 d1 fw
      generalize (W5.setCell ⟨bw, 0, none⟩ (.slice ao2 n2 cap2)).setCell ⟨bw, 1, none⟩ (.bool (stepL ⟨xk, xv, xn, key, to, oth⟩ l m).2) = W6 at P6 X6 ⊢
      generalize stepL ⟨xk, xv, xn, key, to, oth⟩ l m = ml at P6 ⊢
      obtain ⟨l', m'⟩ := ml
      simp only at P6 ⊢
      have hl' : l'.length ≤ 500000 := by have := P6.out.bd.n; have := HK.out; omega
      have hks' : ∀ e ∈ l', e.1.size ≤ 281474976710000 := fun e he => by have := P6.out.bd.k e he; omega
      have CA1 := hid (show ∀ W, Below W6.heap.size W6 W → _ from fun W hb => alike_any p1 (.slice ao2 n2 cap2) m' l' key G1 W (P6.out.s.z.below hb) (P6.out.s.r.below hb) hl' (by have := HXK.out; omega))
      have CA2 := hid (show ∀ W, Below W6.heap.size W6 W → _ from fun W hb => alike_any p2 (.slice ao2 n2 cap2) m' l' oth G3 W (P6.out.z.below hb) (P6.out.s.r.below hb) hl' (by have := HXK.out; omega))
      have CH := hid (show ∀ W, Below W6.heap.size W6 W → _ from fun W hb => held_law p1 (.slice ao2 n2 cap2) m' l' oth G1 W (P6.out.s.z.below hb) (P6.out.s.r.below hb) hl' hks' (by have := HXK.out; omega) (fun j hj => Nat.lt_of_lt_of_le (P6.out.s.fl j hj) hb.size))
      clear hl' hks'
      have hk200 : k + 1 ≤ 200 := by have := HK.out; omega
      obtain ⟨c0, c1⟩ := cells2 P6.out.bx
      obtain ⟨x0, x1, x2, x3, x4, x5⟩ : W6.cell? ⟨wr.heap.size, 0, none⟩ = some (.int .i64 xk) ∧ W6.cell? ⟨wr.heap.size, 1, none⟩ = some (.int .i64 xv) ∧ W6.cell? ⟨wr.heap.size, 2, none⟩ = some (.int .i64 xn) ∧ W6.cell? ⟨wr.heap.size, 3, none⟩ = some (.string key) ∧ W6.cell? ⟨wr.heap.size, 4, none⟩ = some (.string to) ∧ W6.cell? ⟨wr.heap.size, 5, none⟩ = some (.string oth) := cells6 X6.out
      go_wp2_with (first
        | (go_at_call 13
           refine (CA1.out W6 (Below.refl _ _)).mono ?_
           rintro e w7 ⟨rfl, hb7⟩
           have B7 := hid hb7
           have X7 := hid (hp_below X6.out hb7 (hp_lt X6.out))
           have P7 := hid (P6.out.below hb7)
           obtain ⟨c0, c1⟩ := cells2 P7.out.bx
           obtain ⟨x0, x1, x2, x3, x4, x5⟩ : w7.cell? ⟨wr.heap.size, 0, none⟩ = some (.int .i64 xk) ∧ w7.cell? ⟨wr.heap.size, 1, none⟩ = some (.int .i64 xv) ∧ w7.cell? ⟨wr.heap.size, 2, none⟩ = some (.int .i64 xn) ∧ w7.cell? ⟨wr.heap.size, 3, none⟩ = some (.string key) ∧ w7.cell? ⟨wr.heap.size, 4, none⟩ = some (.string to) ∧ w7.cell? ⟨wr.heap.size, 5, none⟩ = some (.string oth) := cells6 X7.out
           clear CA1 hb7)
        | (go_at_call 13
           refine (CA2.out w7 B7.out).mono ?_
           rintro e w8 ⟨rfl, hb8⟩
           have B8 := hid (below_on B7.out hb8)
           have X8 := hid (hp_below X7.out hb8 (hp_lt X7.out))
           have P8 := hid (P7.out.below hb8)
           obtain ⟨c0, c1⟩ := cells2 P8.out.bx
           obtain ⟨x0, x1, x2, x3, x4, x5⟩ : w8.cell? ⟨wr.heap.size, 0, none⟩ = some (.int .i64 xk) ∧ w8.cell? ⟨wr.heap.size, 1, none⟩ = some (.int .i64 xv) ∧ w8.cell? ⟨wr.heap.size, 2, none⟩ = some (.int .i64 xn) ∧ w8.cell? ⟨wr.heap.size, 3, none⟩ = some (.string key) ∧ w8.cell? ⟨wr.heap.size, 4, none⟩ = some (.string to) ∧ w8.cell? ⟨wr.heap.size, 5, none⟩ = some (.string oth) := cells6 X8.out
           clear CA2 hb8)
        | (go_at_call 14
           refine (CH.out w8 B8.out).mono ?_
           rintro e w9 ⟨rfl, hb9⟩
           have P9 := hid (P8.out.below hb9)
           clear CH hb9))
      go_roundw
      case rel => exact ⟨k + 1, _, _, _, _, _, by go_num, HK.out.1, P9⟩
      case measure => simp [intOf]; omega
    · have h1k : (ys.length : Int) ≤ k := by omega
      have hl' : l.length ≤ 500000 := by have := hp.out.bd.n; omega
      have hks' : ∀ e ∈ l, e.1.size ≤ 281474976710000 := fun e he => by have := hp.out.bd.k e he; omega
      have CA1 := hid (show ∀ W, Below wr.heap.size wr W → _ from fun W hb => all_any p1 (.slice ao1 ln cap1) m l F1 W (hp.out.s.z.below hb) (hp.out.s.r.below hb) hl' hks' (fun j hj => Nat.lt_of_lt_of_le (hp.out.s.fl j hj) hb.size))
      have CA2 := hid (show ∀ W, Below wr.heap.size wr W → _ from fun W hb => all_any p2 (.slice ao1 ln cap1) m l F2 W (hp.out.z.below hb) (hp.out.s.r.below hb) hl' hks' (fun j hj => Nat.lt_of_lt_of_le (hp.out.zl j hj) hb.size))
      clear hl' hks' hks HR P0
      obtain ⟨c0, c1⟩ := cells2 hp.out.bx
      go_wp2_with (first
        | (go_at_call 15
           refine (CA1.out wr (Below.refl _ _)).mono ?_
           rintro e w7 ⟨rfl, hb7⟩
           have B7 := hid hb7
           obtain ⟨c0, c1⟩ := cells2 (hp_below hp.out.bx hb7 (hp_lt hp.out.bx))
           clear CA1 hb7)
        | (go_at_call 15
           refine (CA2.out w7 B7.out).mono ?_
           rintro e w8 ⟨rfl, hb8⟩
           have B8 := hid (below_on hp.out.be (below_on B7.out hb8))
           clear CA2 hb8)
        | (go_at_call 10
           refine (KN.out w8).mono ?_
           rintro e w9 ⟨rfl, hb9⟩
           have B9 := hid (below_on B8.out hb9)
           clear KN hb9))
      go_ret
      exact ⟨rfl, B9.out⟩

end Go.Proofs.Ythjggbcppgbdoaa
