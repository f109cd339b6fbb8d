import Derived.Test.YtdnlfacfleemeaaGreatK07
import Derived.Test.YtdnlfacfleemeaaGreatK08
import Derived.Deep.Cut
namespace Go.Proofs.YtdnlfacfleemeaaGreat
open Go.RowKit Go.Lib

theorem vfacts4 {w : World} {r : Nat} {a b c d : Value} {t : TypeId} (h : w.heap[r]? = some (.cells #[a, b, c, d] t (0, 0))) :
    w.cell? ⟨r, 0, none⟩ = some a ∧ w.cell? ⟨r, 1, none⟩ = some b ∧ w.cell? ⟨r, 2, none⟩ = some c ∧ w.cell? ⟨r, 3, none⟩ = some d ∧ ∀ o, w.frozen? ⟨r, o, none⟩ = false := by
  refine ⟨?_, ?_, ?_, ?_, fun o => by simp [World.frozen?, h]⟩ <;> (rw [cell_of_row w _ _ _ _ _ h]; rfl)

theorem set4 {w : World} {r : Nat} {a b c d : Value} {t : TypeId} (h : w.heap[r]? = some (.cells #[a, b, c, d] t (0, 0))) (x y z u : Value) :
    ((((w.setCell ⟨r, 0, none⟩ x).setCell ⟨r, 1, none⟩ y).setCell ⟨r, 2, none⟩ z).setCell ⟨r, 3, none⟩ u).heap[r]? = some (.cells #[x, y, z, u] t (0, 0)) := by
  simp [World.setCell, Array.getElem?_modify, h]

/-- Within the document's Decode: the answer's block and the Reader's. -/
structure Rst (w W : World) (q : Nat) (a b c d : Value) : Prop where
  hr : W.heap[w.heap.size]? = some (vo 0 0 emp)
  hq : W.heap[q]? = some (.cells #[a, b, c, d] 74 (0, 0))
  hb : Below w.heap.size w W
  lt : w.heap.size < q

theorem Rst.below {w W W' : World} {q : Nat} {a b c d : Value} (h : Rst w W q a b c d) (hb : Below W.heap.size W W') : Rst w W' q a b c d :=
  ⟨blk_of hb h.hr (lt_of h.hr), blk_of hb h.hq (lt_of h.hq), below_on h.hb hb, h.lt⟩

theorem Rst.set {w W : World} {q : Nat} {a b c d : Value} (h : Rst w W q a b c d) (x y z u : Value) : Rst w ((((W.setCell ⟨q, 0, none⟩ x).setCell ⟨q, 1, none⟩ y).setCell ⟨q, 2, none⟩ z).setCell ⟨q, 3, none⟩ u) q x y z u := by
  have hk : Kept (fun k => k = q) W ((((W.setCell ⟨q, 0, none⟩ x).setCell ⟨q, 1, none⟩ y).setCell ⟨q, 2, none⟩ z).setCell ⟨q, 3, none⟩ u) :=
    ((((Kept.refl (fun k => k = q) W).setCell (p := ⟨q, 0, none⟩) (fun _ => rfl) _).setCell (p := ⟨q, 1, none⟩) (fun _ => rfl) _).setCell (p := ⟨q, 2, none⟩) (fun _ => rfl) _).setCell (p := ⟨q, 3, none⟩) (fun _ => rfl) _
  refine ⟨(hk.block _ (lt_of h.hr) (by have := h.lt; omega)).trans h.hr, set4 h.hq x y z u, h.hb.trans (hk.below h.hb.size ?_), h.lt⟩
  intro k h1 h2
  have := h.lt
  omega

theorem Rst.mk' {w w1 w2 : World} {a b c d : Value} (h1 : w1.heap[w.heap.size]? = some (vo 0 0 emp)) (h2 : Below w.heap.size w w1) (hb : Below (w1.alloc (.cells #[a, b, c, d] 74)).heap.size (w1.alloc (.cells #[a, b, c, d] 74)) w2) : Rst w w2 w1.heap.size a b c d :=
  Rst.below ⟨(Below.heap_alloc _ _ _ (lt_of h1)).trans h1, heap_alloc_new w1 _, h2.alloc h2.size _, lt_of h1⟩ hb

/-- And the value's block. -/
structure Rsv (w W : World) (q p : Nat) (a b c d x y z : Value) : Prop where
  st : Rst w W q a b c d
  hv : W.heap[p]? = some (.cells #[x, y, z] 51 (0, 0))
  lp : w.heap.size < p
  np : p ≠ q

theorem Rsv.below {w W W' : World} {q p : Nat} {a b c d x y z : Value} (h : Rsv w W q p a b c d x y z) (hb : Below W.heap.size W W') : Rsv w W' q p a b c d x y z :=
  ⟨h.st.below hb, blk_of hb h.hv (lt_of h.hv), h.lp, h.np⟩

theorem Rst.alloc {w W : World} {q : Nat} {a b c d : Value} (h : Rst w W q a b c d) (x y z : Value) : Rsv w (W.alloc (.cells #[x, y, z] 51)) q W.heap.size a b c d x y z :=
  ⟨h.below (below1 W _), heap_alloc_new W _, by have := lt_of h.hq; have := h.lt; omega, by have := lt_of h.hq; omega⟩

set_option maxRecDepth 100000 in
set_option maxHeartbeats 1600000 in
theorem rdecode_none (v : Value) (bs : List Int) (w : World) (h : Sl w v bs) (ho : Oct bs) (hl : bs.length ≤ 1000000000) (a1 : Nat) (xx : List Int) (hk : takeZ 0 1 bs 0 0 = ((0, xx), a1, 0)) (ha1 : a1 ≤ bs.length) (en : Int) (hen : endZ bs.length a1 0 = en) (res : Value) (hz : res = if en = 0 then .tuple #[vl 0 0 emp, .int .i64 0] else .tuple #[vl 0 0 emp, .int .i64 en]) :
    Calls Tryz.prog 63 #[v] w fun e w' => e = .returned res ∧ Below w.heap.size w w' := by
  have HS := hid h
  have HO := hid ho
  have HK := hid hk
  have HE := hid hen
  have HZ := hid hz
  obtain ⟨ao, cc, rfl, hc, hx⟩ := h
  clear ho hk hz hc hx hen
  by_cases h0 : en = 0
  · subst h0
    go_enter Tryz.func63, Tryz.ntmps63
    go_upto_region 5 with (first
      | (go_at_call 29
         refine (rread_any ao bs.length cc _).mono ?_
         rintro e w1 ⟨rfl, hb1⟩
         have H1 := hid (And.intro (blk_of hb1 (heap_alloc_new w (vo 0 0 emp)) (by simp)) (below_on (below1 w _) hb1))
         clear hb1)
      | (go_at_call 60
         refine (rtakeByte_any _ bs 0 0 0 _ ((HS.out.below H1.out.2).below (below1 w1 _)) hl (Nat.zero_le _) (fun h => absurd rfl h)).mono ?_
         rintro e w2 ⟨st2, rfl, hst2, hb2⟩
         rw [HK.out] at hst2 ⊢
         dsimp only
         have HST := hid hst2
         have H2 := hid (Rst.mk' H1.out.1 H1.out.2 hb2)
         obtain ⟨c0, c1, c2, c3, ff⟩ := vfacts4 H2.out.hq
         clear hb2 hst2))
    have R5 := hid (H2.out.set (.slice ao bs.length cc) (.int .i64 a1) (.int .i64 0) (.int .i64 st2))
    obtain ⟨W5, hW5⟩ : ∃ W5, W5 = ((((w2.setCell ⟨w1.heap.size, 0, none⟩ (.slice ao bs.length cc)).setCell ⟨w1.heap.size, 1, none⟩ (.int .i64 a1)).setCell ⟨w1.heap.size, 2, none⟩ (.int .i64 0)).setCell ⟨w1.heap.size, 3, none⟩ (.int .i64 st2)) := ⟨_, rfl⟩
    rw [← hW5] at R5 ⊢
    clear hW5 H2 c0 c1 c2 c3 ff
    obtain ⟨c0, c1, c2, c3, ff⟩ := vfacts4 R5.out.hq
    have l5 := lt_of R5.out.hq
    have m5 := R5.out.lt
    have R6 := hid (R5.out.alloc (.int .i64 0) (.int .i64 0) (.string emp))
    go_wp2_with (
         go_at_call 32
         refine (rend_any ao bs.length cc a1 0 _ _ hl ha1).mono ?_
         rintro e w3 ⟨rfl, hb3⟩
         rw [HE.out]
         have H3 := hid (R6.out.below hb3)
         obtain ⟨d0, d1, d2, fd⟩ := vfacts H3.out.hv
         obtain ⟨r0, r1, r2, fr⟩ := vfacts H3.out.st.hr
         clear hb3)
    refine bodyPost_ret (ret_agg2 Tryz.results63 rfl (set3 H3.out.st.hr _ _ _)) rfl ?_
    exact ⟨by rw [HZ.out]; rfl, Below.set3 H3.out.st.hb (Nat.le_refl _) _ _ _⟩
  · have hb0 : (en == 0) = false := by simpa using h0
    go_enter Tryz.func63, Tryz.ntmps63
    go_upto_region 5 with (first
      | (go_at_call 29
         refine (rread_any ao bs.length cc _).mono ?_
         rintro e w1 ⟨rfl, hb1⟩
         have H1 := hid (And.intro (blk_of hb1 (heap_alloc_new w (vo 0 0 emp)) (by simp)) (below_on (below1 w _) hb1))
         clear hb1)
      | (go_at_call 60
         refine (rtakeByte_any _ bs 0 0 0 _ ((HS.out.below H1.out.2).below (below1 w1 _)) hl (Nat.zero_le _) (fun h => absurd rfl h)).mono ?_
         rintro e w2 ⟨st2, rfl, hst2, hb2⟩
         rw [HK.out] at hst2 ⊢
         dsimp only
         have HST := hid hst2
         have H2 := hid (Rst.mk' H1.out.1 H1.out.2 hb2)
         obtain ⟨c0, c1, c2, c3, ff⟩ := vfacts4 H2.out.hq
         clear hb2 hst2))
    have R5 := hid (H2.out.set (.slice ao bs.length cc) (.int .i64 a1) (.int .i64 0) (.int .i64 st2))
    obtain ⟨W5, hW5⟩ : ∃ W5, W5 = ((((w2.setCell ⟨w1.heap.size, 0, none⟩ (.slice ao bs.length cc)).setCell ⟨w1.heap.size, 1, none⟩ (.int .i64 a1)).setCell ⟨w1.heap.size, 2, none⟩ (.int .i64 0)).setCell ⟨w1.heap.size, 3, none⟩ (.int .i64 st2)) := ⟨_, rfl⟩
    rw [← hW5] at R5 ⊢
    clear hW5 H2 c0 c1 c2 c3 ff
    obtain ⟨c0, c1, c2, c3, ff⟩ := vfacts4 R5.out.hq
    have l5 := lt_of R5.out.hq
    have m5 := R5.out.lt
    have R6 := hid (R5.out.alloc (.int .i64 0) (.int .i64 0) (.string emp))
    go_wp2_with (
         go_at_call 32
         refine (rend_any ao bs.length cc a1 0 _ _ hl ha1).mono ?_
         rintro e w3 ⟨rfl, hb3⟩
         rw [HE.out]
         have H3 := hid (R6.out.below hb3)
         obtain ⟨d0, d1, d2, fd⟩ := vfacts H3.out.hv
         obtain ⟨r0, r1, r2, fr⟩ := vfacts H3.out.st.hr
         clear hb3)
    refine bodyPost_ret (ret_agg2 Tryz.results63 rfl (set3 H3.out.st.hr _ _ _)) rfl ?_
    exact ⟨by rw [HZ.out]; rw [if_neg h0]; rfl, Below.set3 H3.out.st.hb (Nat.le_refl _) _ _ _⟩

end Go.Proofs.YtdnlfacfleemeaaGreat

namespace Go.Proofs.YtdnlfacfleemeaaGreat
open Go.RowKit Go.Lib

theorem Rsv.setv1 {w W : World} {q p : Nat} {a b c d x y z : Value} (h : Rsv w W q p a b c d x y z) (u a' b' c' d' : Value) :
    Rsv w (((((W.setCell ⟨p, 1, none⟩ u).setCell ⟨q, 0, none⟩ a').setCell ⟨q, 1, none⟩ b').setCell ⟨q, 2, none⟩ c').setCell ⟨q, 3, none⟩ d') q p a' b' c' d' x u z := by
  have k1 : Kept (fun k => k = p) W (W.setCell ⟨p, 1, none⟩ u) := Kept.setCell (p := ⟨p, 1, none⟩) (Kept.refl (fun k => k = p) W) (fun _ => rfl) _
  have s1 : Rst w (W.setCell ⟨p, 1, none⟩ u) q a b c d := ⟨(k1.block _ (lt_of h.st.hr) (by have := h.lp; omega)).trans h.st.hr, (k1.block _ (lt_of h.st.hq) (fun e => h.np e.symm)).trans h.st.hq,
    h.st.hb.trans (k1.below h.st.hb.size (fun k h1 h2 => by have := h.lp; omega)), h.st.lt⟩
  have v1 : (W.setCell ⟨p, 1, none⟩ u).heap[p]? = some (.cells #[x, u, z] 51 (0, 0)) := heap3_set1 h.hv
  have k2 : Kept (fun k => k = q) (W.setCell ⟨p, 1, none⟩ u) (((((W.setCell ⟨p, 1, none⟩ u).setCell ⟨q, 0, none⟩ a').setCell ⟨q, 1, none⟩ b').setCell ⟨q, 2, none⟩ c').setCell ⟨q, 3, none⟩ d') :=
    ((((Kept.refl (fun k => k = q) _).setCell (p := ⟨q, 0, none⟩) (fun _ => rfl) _).setCell (p := ⟨q, 1, none⟩) (fun _ => rfl) _).setCell (p := ⟨q, 2, none⟩) (fun _ => rfl) _).setCell (p := ⟨q, 3, none⟩) (fun _ => rfl) _
  exact ⟨s1.set a' b' c' d', (k2.block _ (lt_of v1) h.np).trans v1, h.lp, h.np⟩

theorem Rsv.setv2 {w W : World} {q p : Nat} {a b c d x y z : Value} (h : Rsv w W q p a b c d x y z) (u a' b' c' d' : Value) :
    Rsv w (((((W.setCell ⟨p, 2, none⟩ u).setCell ⟨q, 0, none⟩ a').setCell ⟨q, 1, none⟩ b').setCell ⟨q, 2, none⟩ c').setCell ⟨q, 3, none⟩ d') q p a' b' c' d' x y u := by
  have k1 : Kept (fun k => k = p) W (W.setCell ⟨p, 2, none⟩ u) := Kept.setCell (p := ⟨p, 2, none⟩) (Kept.refl (fun k => k = p) W) (fun _ => rfl) _
  have s1 : Rst w (W.setCell ⟨p, 2, none⟩ u) q a b c d := ⟨(k1.block _ (lt_of h.st.hr) (by have := h.lp; omega)).trans h.st.hr, (k1.block _ (lt_of h.st.hq) (fun e => h.np e.symm)).trans h.st.hq,
    h.st.hb.trans (k1.below h.st.hb.size (fun k h1 h2 => by have := h.lp; omega)), h.st.lt⟩
  have v1 : (W.setCell ⟨p, 2, none⟩ u).heap[p]? = some (.cells #[x, y, u] 51 (0, 0)) := heap3_set2 h.hv
  have k2 : Kept (fun k => k = q) (W.setCell ⟨p, 2, none⟩ u) (((((W.setCell ⟨p, 2, none⟩ u).setCell ⟨q, 0, none⟩ a').setCell ⟨q, 1, none⟩ b').setCell ⟨q, 2, none⟩ c').setCell ⟨q, 3, none⟩ d') :=
    ((((Kept.refl (fun k => k = q) _).setCell (p := ⟨q, 0, none⟩) (fun _ => rfl) _).setCell (p := ⟨q, 1, none⟩) (fun _ => rfl) _).setCell (p := ⟨q, 2, none⟩) (fun _ => rfl) _).setCell (p := ⟨q, 3, none⟩) (fun _ => rfl) _
  exact ⟨s1.set a' b' c' d', (k2.block _ (lt_of v1) h.np).trans v1, h.lp, h.np⟩

set_option maxRecDepth 100000 in
set_option maxHeartbeats 1600000 in
theorem rdecode_int (v : Value) (bs : List Int) (w : World) (h : Sl w v bs) (ho : Oct bs) (hl : bs.length ≤ 1000000000) (a1 : Nat) (xx : List Int) (hk : takeZ 0 1 bs 0 0 = ((1, xx), a1, 0)) (ha1 : a1 ≤ bs.length) (u : Int) (x2 : List Int) (a2 : Nat) (e2 : Int) (hk2 : takeZ 2 0 bs a1 0 = ((u, x2), a2, e2)) (ha2 : a2 ≤ bs.length) (en : Int) (hen : endZ bs.length a2 e2 = en) (res : Value) (hz : res = if en = 0 then .tuple #[vl 1 (unfoldZ u) emp, .int .i64 0] else .tuple #[vl 0 0 emp, .int .i64 en]) :
    Calls Tryz.prog 63 #[v] w fun e w' => e = .returned res ∧ Below w.heap.size w w' := by
  have HS := hid h
  have HO := hid ho
  have HK := hid hk
  have HE := hid hen
  have HK2 := hid hk2
  have HZ := hid hz
  obtain ⟨ao, cc, rfl, hc, hx⟩ := h
  clear ho hk hz hc hx hen hk2
  by_cases h0 : en = 0
  · subst h0
    go_enter Tryz.func63, Tryz.ntmps63
    go_upto_region 5 with (first
      | (go_at_call 29
         refine (rread_any ao bs.length cc _).mono ?_
         rintro e w1 ⟨rfl, hb1⟩
         have H1 := hid (And.intro (blk_of hb1 (heap_alloc_new w (vo 0 0 emp)) (by simp)) (below_on (below1 w _) hb1))
         clear hb1)
      | (go_at_call 60
         refine (rtakeByte_any _ bs 0 0 0 _ ((HS.out.below H1.out.2).below (below1 w1 _)) hl (Nat.zero_le _) (fun h => absurd rfl h)).mono ?_
         rintro e w2 ⟨st2, rfl, hst2, hb2⟩
         rw [HK.out] at hst2 ⊢
         dsimp only
         have HST := hid hst2
         have H2 := hid (Rst.mk' H1.out.1 H1.out.2 hb2)
         obtain ⟨c0, c1, c2, c3, ff⟩ := vfacts4 H2.out.hq
         clear hb2 hst2))
    have R5 := hid (H2.out.set (.slice ao bs.length cc) (.int .i64 a1) (.int .i64 0) (.int .i64 st2))
    obtain ⟨W5, hW5⟩ : ∃ W5, W5 = ((((w2.setCell ⟨w1.heap.size, 0, none⟩ (.slice ao bs.length cc)).setCell ⟨w1.heap.size, 1, none⟩ (.int .i64 a1)).setCell ⟨w1.heap.size, 2, none⟩ (.int .i64 0)).setCell ⟨w1.heap.size, 3, none⟩ (.int .i64 st2)) := ⟨_, rfl⟩
    rw [← hW5] at R5 ⊢
    clear hW5 H2 c0 c1 c2 c3 ff
    obtain ⟨c0, c1, c2, c3, ff⟩ := vfacts4 R5.out.hq
    have l5 := lt_of R5.out.hq
    have m5 := R5.out.lt
    have R6 := hid (R5.out.alloc (.int .i64 1) (.int .i64 0) (.string emp))
    have HS5 := hid ((HS.out.below R5.out.hb).below (below1 W5 (.cells #[.int .i64 1, .int .i64 0, .string emp] 51)))
    go_wp2_with (first
      | (go_at_call 85
         refine (rtakeInt_any _ bs a1 0 st2 _ HS5.out HO.out hl ha1 (fun h => absurd rfl h)).mono ?_
         rintro e w3 ⟨st3, rfl, hst3, hb3⟩
         rw [HK2.out] at hst3 ⊢
         dsimp only
         have H3 := hid (R6.out.below hb3)
         obtain ⟨d0, d1, d2, fd⟩ := vfacts H3.out.hv
         obtain ⟨c0, c1, c2, c3, ff⟩ := vfacts4 H3.out.st.hq
         clear hb3 hst3)
      | (go_at_call 32
         refine (rend_any ao bs.length cc a2 e2 _ _ hl ha2).mono ?_
         rintro e w4 ⟨rfl, hb4⟩
         rw [HE.out]
         have H4 := hid ((H3.out.setv1 (.int .i64 (unfoldZ u)) (.slice ao bs.length cc) (.int .i64 a2) (.int .i64 e2) (.int .i64 st3)).below hb4)
         obtain ⟨d0, d1, d2, fd⟩ := vfacts H4.out.hv
         obtain ⟨r0, r1, r2, fr⟩ := vfacts H4.out.st.hr
         clear hb4))
    refine bodyPost_ret (ret_agg2 Tryz.results63 rfl (set3 H4.out.st.hr _ _ _)) rfl ?_
    exact ⟨by rw [HZ.out]; rfl, Below.set3 H4.out.st.hb (Nat.le_refl _) _ _ _⟩
  · have hb0 : (en == 0) = false := by simpa using h0
    go_enter Tryz.func63, Tryz.ntmps63
    go_upto_region 5 with (first
      | (go_at_call 29
         refine (rread_any ao bs.length cc _).mono ?_
         rintro e w1 ⟨rfl, hb1⟩
         have H1 := hid (And.intro (blk_of hb1 (heap_alloc_new w (vo 0 0 emp)) (by simp)) (below_on (below1 w _) hb1))
         clear hb1)
      | (go_at_call 60
         refine (rtakeByte_any _ bs 0 0 0 _ ((HS.out.below H1.out.2).below (below1 w1 _)) hl (Nat.zero_le _) (fun h => absurd rfl h)).mono ?_
         rintro e w2 ⟨st2, rfl, hst2, hb2⟩
         rw [HK.out] at hst2 ⊢
         dsimp only
         have HST := hid hst2
         have H2 := hid (Rst.mk' H1.out.1 H1.out.2 hb2)
         obtain ⟨c0, c1, c2, c3, ff⟩ := vfacts4 H2.out.hq
         clear hb2 hst2))
    have R5 := hid (H2.out.set (.slice ao bs.length cc) (.int .i64 a1) (.int .i64 0) (.int .i64 st2))
    obtain ⟨W5, hW5⟩ : ∃ W5, W5 = ((((w2.setCell ⟨w1.heap.size, 0, none⟩ (.slice ao bs.length cc)).setCell ⟨w1.heap.size, 1, none⟩ (.int .i64 a1)).setCell ⟨w1.heap.size, 2, none⟩ (.int .i64 0)).setCell ⟨w1.heap.size, 3, none⟩ (.int .i64 st2)) := ⟨_, rfl⟩
    rw [← hW5] at R5 ⊢
    clear hW5 H2 c0 c1 c2 c3 ff
    obtain ⟨c0, c1, c2, c3, ff⟩ := vfacts4 R5.out.hq
    have l5 := lt_of R5.out.hq
    have m5 := R5.out.lt
    have R6 := hid (R5.out.alloc (.int .i64 1) (.int .i64 0) (.string emp))
    have HS5 := hid ((HS.out.below R5.out.hb).below (below1 W5 (.cells #[.int .i64 1, .int .i64 0, .string emp] 51)))
    go_wp2_with (first
      | (go_at_call 85
         refine (rtakeInt_any _ bs a1 0 st2 _ HS5.out HO.out hl ha1 (fun h => absurd rfl h)).mono ?_
         rintro e w3 ⟨st3, rfl, hst3, hb3⟩
         rw [HK2.out] at hst3 ⊢
         dsimp only
         have H3 := hid (R6.out.below hb3)
         obtain ⟨d0, d1, d2, fd⟩ := vfacts H3.out.hv
         obtain ⟨c0, c1, c2, c3, ff⟩ := vfacts4 H3.out.st.hq
         clear hb3 hst3)
      | (go_at_call 32
         refine (rend_any ao bs.length cc a2 e2 _ _ hl ha2).mono ?_
         rintro e w4 ⟨rfl, hb4⟩
         rw [HE.out]
         have H4 := hid ((H3.out.setv1 (.int .i64 (unfoldZ u)) (.slice ao bs.length cc) (.int .i64 a2) (.int .i64 e2) (.int .i64 st3)).below hb4)
         obtain ⟨d0, d1, d2, fd⟩ := vfacts H4.out.hv
         obtain ⟨r0, r1, r2, fr⟩ := vfacts H4.out.st.hr
         clear hb4))
    refine bodyPost_ret (ret_agg2 Tryz.results63 rfl (set3 H4.out.st.hr _ _ _)) rfl ?_
    exact ⟨by rw [HZ.out]; rw [if_neg h0]; rfl, Below.set3 H4.out.st.hb (Nat.le_refl _) _ _ _⟩

set_option maxRecDepth 100000 in
set_option maxHeartbeats 1600000 in
theorem rdecode_text (v : Value) (bs : List Int) (w : World) (h : Sl w v bs) (ho : Oct bs) (hl : bs.length ≤ 1000000000) (a1 : Nat) (xx : List Int) (hk : takeZ 0 1 bs 0 0 = ((2, xx), a1, 0)) (ha1 : a1 ≤ bs.length) (u : Int) (x2 : List Int) (a2 : Nat) (e2 : Int) (hk2 : takeZ 3 256 bs a1 0 = ((u, x2), a2, e2)) (ha2 : a2 ≤ bs.length) (en : Int) (hen : endZ bs.length a2 e2 = en) (res : Value) (hz : res = if en = 0 then .tuple #[vl 2 0 (mkStr x2), .int .i64 0] else .tuple #[vl 0 0 emp, .int .i64 en]) :
    Calls Tryz.prog 63 #[v] w fun e w' => e = .returned res ∧ Below w.heap.size w w' := by
  have HS := hid h
  have HO := hid ho
  have HK := hid hk
  have HE := hid hen
  have HK2 := hid hk2
  have HZ := hid hz
  obtain ⟨ao, cc, rfl, hc, hx⟩ := h
  clear ho hk hz hc hx hen hk2
  by_cases h0 : en = 0
  · subst h0
    go_enter Tryz.func63, Tryz.ntmps63
    go_upto_region 5 with (first
      | (go_at_call 29
         refine (rread_any ao bs.length cc _).mono ?_
         rintro e w1 ⟨rfl, hb1⟩
         have H1 := hid (And.intro (blk_of hb1 (heap_alloc_new w (vo 0 0 emp)) (by simp)) (below_on (below1 w _) hb1))
         clear hb1)
      | (go_at_call 60
         refine (rtakeByte_any _ bs 0 0 0 _ ((HS.out.below H1.out.2).below (below1 w1 _)) hl (Nat.zero_le _) (fun h => absurd rfl h)).mono ?_
         rintro e w2 ⟨st2, rfl, hst2, hb2⟩
         rw [HK.out] at hst2 ⊢
         dsimp only
         have HST := hid hst2
         have H2 := hid (Rst.mk' H1.out.1 H1.out.2 hb2)
         obtain ⟨c0, c1, c2, c3, ff⟩ := vfacts4 H2.out.hq
         clear hb2 hst2))
    have R5 := hid (H2.out.set (.slice ao bs.length cc) (.int .i64 a1) (.int .i64 0) (.int .i64 st2))
    obtain ⟨W5, hW5⟩ : ∃ W5, W5 = ((((w2.setCell ⟨w1.heap.size, 0, none⟩ (.slice ao bs.length cc)).setCell ⟨w1.heap.size, 1, none⟩ (.int .i64 a1)).setCell ⟨w1.heap.size, 2, none⟩ (.int .i64 0)).setCell ⟨w1.heap.size, 3, none⟩ (.int .i64 st2)) := ⟨_, rfl⟩
    rw [← hW5] at R5 ⊢
    clear hW5 H2 c0 c1 c2 c3 ff
    obtain ⟨c0, c1, c2, c3, ff⟩ := vfacts4 R5.out.hq
    have l5 := lt_of R5.out.hq
    have m5 := R5.out.lt
    have R6 := hid (R5.out.alloc (.int .i64 2) (.int .i64 0) (.string emp))
    have HS5 := hid ((HS.out.below R5.out.hb).below (below1 W5 (.cells #[.int .i64 2, .int .i64 0, .string emp] 51)))
    go_wp2_with (first
      | (go_at_call 61
         refine (rtakeText_any _ bs a1 0 st2 256 _ HS5.out HO.out hl ha1 (fun h => absurd rfl h) (by omega) (by omega)).mono ?_
         rintro e w3 ⟨st3, rfl, hst3, hb3⟩
         rw [HK2.out] at hst3 ⊢
         dsimp only
         have H3 := hid (R6.out.below hb3)
         obtain ⟨d0, d1, d2, fd⟩ := vfacts H3.out.hv
         obtain ⟨c0, c1, c2, c3, ff⟩ := vfacts4 H3.out.st.hq
         clear hb3 hst3)
      | (go_at_call 32
         refine (rend_any ao bs.length cc a2 e2 _ _ hl ha2).mono ?_
         rintro e w4 ⟨rfl, hb4⟩
         rw [HE.out]
         have H4 := hid ((H3.out.setv2 (.string (mkStr x2)) (.slice ao bs.length cc) (.int .i64 a2) (.int .i64 e2) (.int .i64 st3)).below hb4)
         obtain ⟨d0, d1, d2, fd⟩ := vfacts H4.out.hv
         obtain ⟨r0, r1, r2, fr⟩ := vfacts H4.out.st.hr
         clear hb4))
    refine bodyPost_ret (ret_agg2 Tryz.results63 rfl (set3 H4.out.st.hr _ _ _)) rfl ?_
    exact ⟨by rw [HZ.out]; rfl, Below.set3 H4.out.st.hb (Nat.le_refl _) _ _ _⟩
  · have hb0 : (en == 0) = false := by simpa using h0
    go_enter Tryz.func63, Tryz.ntmps63
    go_upto_region 5 with (first
      | (go_at_call 29
         refine (rread_any ao bs.length cc _).mono ?_
         rintro e w1 ⟨rfl, hb1⟩
         have H1 := hid (And.intro (blk_of hb1 (heap_alloc_new w (vo 0 0 emp)) (by simp)) (below_on (below1 w _) hb1))
         clear hb1)
      | (go_at_call 60
         refine (rtakeByte_any _ bs 0 0 0 _ ((HS.out.below H1.out.2).below (below1 w1 _)) hl (Nat.zero_le _) (fun h => absurd rfl h)).mono ?_
         rintro e w2 ⟨st2, rfl, hst2, hb2⟩
         rw [HK.out] at hst2 ⊢
         dsimp only
         have HST := hid hst2
         have H2 := hid (Rst.mk' H1.out.1 H1.out.2 hb2)
         obtain ⟨c0, c1, c2, c3, ff⟩ := vfacts4 H2.out.hq
         clear hb2 hst2))
    have R5 := hid (H2.out.set (.slice ao bs.length cc) (.int .i64 a1) (.int .i64 0) (.int .i64 st2))
    obtain ⟨W5, hW5⟩ : ∃ W5, W5 = ((((w2.setCell ⟨w1.heap.size, 0, none⟩ (.slice ao bs.length cc)).setCell ⟨w1.heap.size, 1, none⟩ (.int .i64 a1)).setCell ⟨w1.heap.size, 2, none⟩ (.int .i64 0)).setCell ⟨w1.heap.size, 3, none⟩ (.int .i64 st2)) := ⟨_, rfl⟩
    rw [← hW5] at R5 ⊢
    clear hW5 H2 c0 c1 c2 c3 ff
    obtain ⟨c0, c1, c2, c3, ff⟩ := vfacts4 R5.out.hq
    have l5 := lt_of R5.out.hq
    have m5 := R5.out.lt
    have R6 := hid (R5.out.alloc (.int .i64 2) (.int .i64 0) (.string emp))
    have HS5 := hid ((HS.out.below R5.out.hb).below (below1 W5 (.cells #[.int .i64 2, .int .i64 0, .string emp] 51)))
    go_wp2_with (first
      | (go_at_call 61
         refine (rtakeText_any _ bs a1 0 st2 256 _ HS5.out HO.out hl ha1 (fun h => absurd rfl h) (by omega) (by omega)).mono ?_
         rintro e w3 ⟨st3, rfl, hst3, hb3⟩
         rw [HK2.out] at hst3 ⊢
         dsimp only
         have H3 := hid (R6.out.below hb3)
         obtain ⟨d0, d1, d2, fd⟩ := vfacts H3.out.hv
         obtain ⟨c0, c1, c2, c3, ff⟩ := vfacts4 H3.out.st.hq
         clear hb3 hst3)
      | (go_at_call 32
         refine (rend_any ao bs.length cc a2 e2 _ _ hl ha2).mono ?_
         rintro e w4 ⟨rfl, hb4⟩
         rw [HE.out]
         have H4 := hid ((H3.out.setv2 (.string (mkStr x2)) (.slice ao bs.length cc) (.int .i64 a2) (.int .i64 e2) (.int .i64 st3)).below hb4)
         obtain ⟨d0, d1, d2, fd⟩ := vfacts H4.out.hv
         obtain ⟨r0, r1, r2, fr⟩ := vfacts H4.out.st.hr
         clear hb4))
    refine bodyPost_ret (ret_agg2 Tryz.results63 rfl (set3 H4.out.st.hr _ _ _)) rfl ?_
    exact ⟨by rw [HZ.out]; rw [if_neg h0]; rfl, Below.set3 H4.out.st.hb (Nat.le_refl _) _ _ _⟩

set_option maxRecDepth 100000 in
set_option maxHeartbeats 1600000 in
theorem rdecode_else (v : Value) (bs : List Int) (w : World) (h : Sl w v bs) (ho : Oct bs) (hl : bs.length ≤ 1000000000) (kk : Int) (a1 : Nat) (xx : List Int) (hk : takeZ 0 1 bs 0 0 = ((kk, xx), a1, 0)) (k0 : 3 ≤ kk) (k1 : kk < 256) (res : Value) (hz : res = .tuple #[vl 0 0 emp, .int .i64 3]) :
    Calls Tryz.prog 63 #[v] w fun e w' => e = .returned res ∧ Below w.heap.size w w' := by
  have HS := hid h
  have HO := hid ho
  have HK := hid hk
  have HZ := hid hz
  obtain ⟨ao, cc, rfl, hc, hx⟩ := h
  clear ho hk hz hc hx
  have b0 : (kk == 0) = false := by simp; omega
  have b1 : (kk == 1) = false := by simp; omega
  have b2 : (kk == 2) = false := by simp; omega
  have hgo : True := trivial
  · go_enter Tryz.func63, Tryz.ntmps63
    go_upto_region 5 with (first
      | (go_at_call 29
         refine (rread_any ao bs.length cc _).mono ?_
         rintro e w1 ⟨rfl, hb1⟩
         have H1 := hid (And.intro (blk_of hb1 (heap_alloc_new w (vo 0 0 emp)) (by simp)) (below_on (below1 w _) hb1))
         clear hb1)
      | (go_at_call 60
         refine (rtakeByte_any _ bs 0 0 0 _ ((HS.out.below H1.out.2).below (below1 w1 _)) hl (Nat.zero_le _) (fun h => absurd rfl h)).mono ?_
         rintro e w2 ⟨st2, rfl, hst2, hb2⟩
         rw [HK.out] at hst2 ⊢
         dsimp only
         have HST := hid hst2
         have H2 := hid (Rst.mk' H1.out.1 H1.out.2 hb2)
         obtain ⟨c0, c1, c2, c3, ff⟩ := vfacts4 H2.out.hq
         clear hb2 hst2))
    have R5 := hid (H2.out.set (.slice ao bs.length cc) (.int .i64 a1) (.int .i64 0) (.int .i64 st2))
    obtain ⟨W5, hW5⟩ : ∃ W5, W5 = ((((w2.setCell ⟨w1.heap.size, 0, none⟩ (.slice ao bs.length cc)).setCell ⟨w1.heap.size, 1, none⟩ (.int .i64 a1)).setCell ⟨w1.heap.size, 2, none⟩ (.int .i64 0)).setCell ⟨w1.heap.size, 3, none⟩ (.int .i64 st2)) := ⟨_, rfl⟩
    rw [← hW5] at R5 ⊢
    clear hW5 H2 c0 c1 c2 c3 ff
    obtain ⟨c0, c1, c2, c3, ff⟩ := vfacts4 R5.out.hq
    have l5 := lt_of R5.out.hq
    have m5 := R5.out.lt
    have R6 := hid R5.out
    have q5 := lt_of R5.out.hr
    obtain ⟨r0, r1, r2, fr⟩ := vfacts R5.out.hr
    go_wp2
    refine bodyPost_ret (ret_agg2 Tryz.results63 rfl ((Below.heap_alloc _ _ _ (by simpa [World.setCell] using q5)).trans (set3 R6.out.hr _ _ _))) rfl ?_
    exact ⟨by rw [HZ.out]; rfl, (Below.set3 R6.out.hb (Nat.le_refl _) _ _ _).alloc (by simpa [World.setCell] using Nat.le_of_lt q5) _⟩

set_option maxRecDepth 100000 in
set_option maxHeartbeats 1600000 in
theorem rdecode_err (v : Value) (bs : List Int) (w : World) (h : Sl w v bs) (ho : Oct bs) (hl : bs.length ≤ 1000000000) (kk : Int) (a1 : Nat) (e1 : Int) (xx : List Int) (hk : takeZ 0 1 bs 0 0 = ((kk, xx), a1, e1)) (he : e1 ≠ 0) (res : Value) (hz : res = .tuple #[vl 0 0 emp, .int .i64 e1]) :
    Calls Tryz.prog 63 #[v] w fun e w' => e = .returned res ∧ Below w.heap.size w w' := by
  have HS := hid h
  have HO := hid ho
  have HK := hid hk
  have HZ := hid hz
  obtain ⟨ao, cc, rfl, hc, hx⟩ := h
  clear ho hk hz hc hx
  have b0 : (e1 == 0) = false := by simpa using he
  have hgo : True := trivial
  · go_enter Tryz.func63, Tryz.ntmps63
    go_upto_region 4 with (first
      | (go_at_call 29
         refine (rread_any ao bs.length cc _).mono ?_
         rintro e w1 ⟨rfl, hb1⟩
         have H1 := hid (And.intro (blk_of hb1 (heap_alloc_new w (vo 0 0 emp)) (by simp)) (below_on (below1 w _) hb1))
         clear hb1)
      | (go_at_call 60
         refine (rtakeByte_any _ bs 0 0 0 _ ((HS.out.below H1.out.2).below (below1 w1 _)) hl (Nat.zero_le _) (fun h => absurd rfl h)).mono ?_
         rintro e w2 ⟨st2, rfl, hst2, hb2⟩
         rw [HK.out] at hst2 ⊢
         dsimp only
         have HST := hid hst2
         have H2 := hid (Rst.mk' H1.out.1 H1.out.2 hb2)
         obtain ⟨c0, c1, c2, c3, ff⟩ := vfacts4 H2.out.hq
         clear hb2 hst2))
    have R5 := hid (H2.out.set (.slice ao bs.length cc) (.int .i64 a1) (.int .i64 e1) (.int .i64 st2))
    obtain ⟨W5, hW5⟩ : ∃ W5, W5 = ((((w2.setCell ⟨w1.heap.size, 0, none⟩ (.slice ao bs.length cc)).setCell ⟨w1.heap.size, 1, none⟩ (.int .i64 a1)).setCell ⟨w1.heap.size, 2, none⟩ (.int .i64 e1)).setCell ⟨w1.heap.size, 3, none⟩ (.int .i64 st2)) := ⟨_, rfl⟩
    rw [← hW5] at R5 ⊢
    clear hW5 H2 c0 c1 c2 c3 ff
    obtain ⟨c0, c1, c2, c3, ff⟩ := vfacts4 R5.out.hq
    have l5 := lt_of R5.out.hq
    have m5 := R5.out.lt
    obtain ⟨r0, r1, r2, fr⟩ := vfacts R5.out.hr
    have ne1 : w1.heap.size ≠ w.heap.size := by omega
    have ne2 : w.heap.size ≠ w1.heap.size := by omega
    go_region_held (fun w' => w'.cell? ⟨w1.heap.size, 2, none⟩ = some (.int .i64 e1)) (first | go_keep | (simp [go_sem, *]; done)) (fail)
    all_goals
      go_wp2
      refine bodyPost_ret (ret_agg2 Tryz.results63 rfl (set3 R5.out.hr _ _ _)) rfl ?_
      exact ⟨by rw [HZ.out]; rfl, (Below.set3 R5.out.hb (Nat.le_refl _) _ _ _).drew⟩

theorem takeZ_at (f n : Int) (bs : List Int) (at' : Nat) (e : Int) (_h : at' ≤ bs.length) (hr : (takeZ f n bs at' e).2.1 ≤ bs.length) : (takeZ f n bs at' e).2.1 ≤ bs.length := hr

end Go.Proofs.YtdnlfacfleemeaaGreat

namespace Go.Proofs.YtdnlfacfleemeaaGreat
open Go.RowKit Go.Lib

theorem takeZ_le (f n : Int) (bs : List Int) (at' : Nat) (e : Int) (ho : Oct bs) (h : at' ≤ bs.length) : (takeZ f n bs at' e).2.1 ≤ bs.length := by
  have ho2 : Oct (bs.drop at') := fun x hx => ho x (List.mem_of_mem_drop hx)
  have hd : (bs.drop at').length = bs.length - at' := by simp
  unfold takeZ
  split
  · split
    · rename_i h0
      have hb := leadZ_ok f (bs.drop at') n ho2 h0
      rw [hd] at *
      split
      · split
        · exact h
        · split
          · exact h
          · dsimp only; omega
      · dsimp only; omega
    · exact h
  · exact h

theorem takeZ_byte (bs : List Int) : bs = [] ∧ takeZ 0 1 bs 0 0 = ((0, []), 0, 2) ∨ ∃ b r, bs = b :: r ∧ takeZ 0 1 bs 0 0 = ((b, []), 1, 0) := by
  cases bs with
  | nil => exact .inl ⟨rfl, by simp [takeZ, leadZ, fixZ]⟩
  | cons b r =>
    refine .inr ⟨b, r, rfl, ?_⟩
    have hn : ¬ ((r.length : Int) + 1 < 1) := by omega
    simp [takeZ, leadZ, fixZ, leZ, hn]

theorem rdecode_any (v : Value) (bs : List Int) (w : World) (h : Sl w v bs) (ho : Oct bs) (hl : bs.length ≤ 1000000000) :
    Calls Tryz.prog 63 #[v] w fun e w' => e = .returned (decV (decZ bs)) ∧ Below w.heap.size w w' := by
  have hb := takeZ_bd 0 1 bs 0 0 ho
  have hle := takeZ_le 0 1 bs 0 0 ho (Nat.zero_le _)
  obtain ⟨⟨⟨kk, xx⟩, a1, e1⟩, ht⟩ : ∃ t, takeZ 0 1 bs 0 0 = t := ⟨_, rfl⟩
  rw [ht] at hb hle
  have h0 : 0 ≤ kk := hb.1
  have h1 : kk < 256 := hb.2.2.2 rfl rfl
  have hle : a1 ≤ bs.length := hle
  by_cases he : e1 = 0
  · subst he
    by_cases k0 : kk = 0
    · subst k0
      refine rdecode_none v bs w h ho hl a1 xx ht hle _ rfl _ ?_
      simp [decV, decZ, ht, mkStr_nil]
    · by_cases k1 : kk = 1
      · subst k1
        have hle2 := takeZ_le 2 0 bs a1 0 ho hle
        obtain ⟨⟨⟨u, x2⟩, a2, e2⟩, ht2⟩ : ∃ t, takeZ 2 0 bs a1 0 = t := ⟨_, rfl⟩
        rw [ht2] at hle2
        refine rdecode_int v bs w h ho hl a1 xx ht hle u x2 a2 e2 ht2 hle2 _ rfl _ ?_
        simp [decV, decZ, ht, ht2, mkStr_nil]
      · by_cases k2 : kk = 2
        · subst k2
          have hle2 := takeZ_le 3 256 bs a1 0 ho hle
          obtain ⟨⟨⟨u, x2⟩, a2, e2⟩, ht2⟩ : ∃ t, takeZ 3 256 bs a1 0 = t := ⟨_, rfl⟩
          rw [ht2] at hle2
          refine rdecode_text v bs w h ho hl a1 xx ht hle u x2 a2 e2 ht2 hle2 _ rfl _ ?_
          simp [decV, decZ, ht, ht2]
        · refine rdecode_else v bs w h ho hl kk a1 xx ht (by omega) h1 _ ?_
          simp [decV, decZ, ht, k0, k1, k2]
  · refine rdecode_err v bs w h ho hl kk a1 e1 xx ht he _ ?_
    rcases takeZ_byte bs with ⟨_, h2⟩ | ⟨b, r, _, h2⟩
    · rw [ht] at h2
      injection h2 with h3 h4
      injection h3 with h5 h6
      injection h4 with h7 h8
      subst h5 h7 h8
      simp [decV, decZ, ht, endZ]
    · rw [ht] at h2
      injection h2 with h3 h4
      injection h4 with h7 h8
      exact absurd h8 he

end Go.Proofs.YtdnlfacfleemeaaGreat
