import Derived.Test.YtdnlfacfleemeaaGreatK05
import Derived.Test.YtdnlfacfleemeaaGreatK06
namespace Go.Proofs.YtdnlfacfleemeaaGreat
open Go.RowKit Go.Lib

/-- What Decode makes of bytes: the value, the error. -/
def decZ (bs : List Int) : (Int × Int × List Int) × Int :=
  if (takeZ 0 1 bs 0 0).1.1 = 0 then ((0, 0, []), endZ bs.length (takeZ 0 1 bs 0 0).2.1 (takeZ 0 1 bs 0 0).2.2)
  else if (takeZ 0 1 bs 0 0).1.1 = 1 then ((1, unfoldZ (takeZ 2 0 bs (takeZ 0 1 bs 0 0).2.1 (takeZ 0 1 bs 0 0).2.2).1.1, []), endZ bs.length (takeZ 2 0 bs (takeZ 0 1 bs 0 0).2.1 (takeZ 0 1 bs 0 0).2.2).2.1 (takeZ 2 0 bs (takeZ 0 1 bs 0 0).2.1 (takeZ 0 1 bs 0 0).2.2).2.2)
  else if (takeZ 0 1 bs 0 0).1.1 = 2 then ((2, 0, (takeZ 3 256 bs (takeZ 0 1 bs 0 0).2.1 (takeZ 0 1 bs 0 0).2.2).1.2), endZ bs.length (takeZ 3 256 bs (takeZ 0 1 bs 0 0).2.1 (takeZ 0 1 bs 0 0).2.2).2.1 (takeZ 3 256 bs (takeZ 0 1 bs 0 0).2.1 (takeZ 0 1 bs 0 0).2.2).2.2)
  else ((0, 0, []), 3)

/-- The same as what Decode answers. -/
def decV (d : (Int × Int × List Int) × Int) : Value := if d.2 = 0 then .tuple #[vl d.1.1 d.1.2.1 (mkStr d.1.2.2), .int .i64 0] else .tuple #[vl 0 0 emp, .int .i64 d.2]

theorem mkStr_nil : mkStr [] = emp := rfl

theorem Rd.kept {w w' : World} {p : Nat} {g : Option Nat} {bs : List Int} {at' : Nat} {e : Int} {S : Nat → Prop} (h : Rd w p g bs at' e) (hk : Kept S w w') (hp : ¬ S p) (hg : ∀ k, g = some k → ¬ S k) : Rd w' p g bs at' e := by
  obtain ⟨v, h1, rfl, h3, h4⟩ := h
  exact ⟨v, (hk.block p (lt_of h1) hp).trans h1, rfl, h3.kept hk hg, h4⟩

/-- Within Decode: the answer's block, the value's block, the Reader. -/
structure Dst (w w' : World) (p q : Nat) (g : Option Nat) (bs : List Int) (a b c : Value) (at' : Nat) (e : Int) : Prop where
  hr : w'.heap[w.heap.size]? = some (vo 0 0 emp)
  hv : w'.heap[q]? = some (.cells #[a, b, c] 51 (0, 0))
  rd : Rd w' p g bs at' e
  hb : Below w.heap.size w w'
  hp : w.heap.size < p
  hq : w.heap.size < q
  hn : q ≠ p
  hg : g ≠ some q

theorem Dst.step {w w' w2 : World} {p q : Nat} {g : Option Nat} {bs : List Int} {a b c : Value} {at' at2 : Nat} {e e2 : Int} (h : Dst w w' p q g bs a b c at' e) (hs : RdStep p g w' w2 bs at2 e2) : Dst w w2 p q g bs a b c at2 e2 := by
  obtain ⟨h1, hk⟩ := hs
  refine ⟨(hk.block _ (lt_of h.hr) (by have := h.hp; omega)).trans h.hr, (hk.block _ (lt_of h.hv) h.hn).trans h.hv, h1, h.hb.trans (hk.below h.hb.size ?_), h.hp, h.hq, h.hn, h.hg⟩
  intro k hk2 e
  have := h.hp
  omega

theorem Dst.set1 {w w' : World} {p q : Nat} {g : Option Nat} {bs : List Int} {a b c : Value} {at' : Nat} {e : Int} (h : Dst w w' p q g bs a b c at' e) (x : Value) : Dst w (w'.setCell ⟨q, 1, none⟩ x) p q g bs a x c at' e := by
  have hk : Kept (fun k => k = q) w' (w'.setCell ⟨q, 1, none⟩ x) := Kept.setCell (p := ⟨q, 1, none⟩) (Kept.refl (fun k => k = q) w') (fun _ => rfl) _
  refine ⟨(hk.block _ (lt_of h.hr) (by have := h.hq; omega)).trans h.hr, heap3_set1 h.hv, h.rd.kept hk (fun e => h.hn e.symm) (fun k hk e => h.hg (by rw [hk, e])), h.hb.trans (hk.below h.hb.size ?_), h.hp, h.hq, h.hn, h.hg⟩
  intro k hk2 e
  have := h.hq
  omega

theorem Dst.set2 {w w' : World} {p q : Nat} {g : Option Nat} {bs : List Int} {a b c : Value} {at' : Nat} {e : Int} (h : Dst w w' p q g bs a b c at' e) (x : Value) : Dst w (w'.setCell ⟨q, 2, none⟩ x) p q g bs a b x at' e := by
  have hk : Kept (fun k => k = q) w' (w'.setCell ⟨q, 2, none⟩ x) := Kept.setCell (p := ⟨q, 2, none⟩) (Kept.refl (fun k => k = q) w') (fun _ => rfl) _
  refine ⟨(hk.block _ (lt_of h.hr) (by have := h.hq; omega)).trans h.hr, heap3_set2 h.hv, h.rd.kept hk (fun e => h.hn e.symm) (fun k hk e => h.hg (by rw [hk, e])), h.hb.trans (hk.below h.hb.size ?_), h.hp, h.hq, h.hn, h.hg⟩
  intro k hk2 e
  have := h.hq
  omega

theorem Dst.drewN {w w' : World} {p q : Nat} {g : Option Nat} {bs : List Int} {a b c : Value} {at' : Nat} {e : Int} (h : Dst w w' p q g bs a b c at' e) (m : Nat) : Dst w (w'.drewN m) p q g bs a b c at' e :=
  ⟨h.hr, h.hv, h.rd.drewN m, ⟨h.hb.os, h.hb.tape, h.hb.output, h.hb.size, h.hb.block⟩, h.hp, h.hq, h.hn, h.hg⟩

/-- Behind the Byte, the value's block laid. -/
theorem Dst.mk' {w w1 w2 : World} {p : Nat} {bs : List Int} {at' : Nat} {e : Int} (hp : (w.alloc (vo 0 0 emp)).heap.size < p) (_hr : Rd w1 p (some (w.alloc (vo 0 0 emp)).heap.size) bs 0 0) (hb : Below (w.alloc (vo 0 0 emp)).heap.size (w.alloc (vo 0 0 emp)) w1) (hs : RdStep p (some (w.alloc (vo 0 0 emp)).heap.size) w1 w2 bs at' e) (a b c : Value) :
    Dst w (w2.alloc (.cells #[a, b, c] 51)) p w2.heap.size (some (w.alloc (vo 0 0 emp)).heap.size) bs a b c at' e := by
  obtain ⟨h1, hk⟩ := hs
  have hp' : w.heap.size + 1 < p := by simpa using hp
  have hpl : p < w2.heap.size := by
    obtain ⟨v, hv, _⟩ := h1
    exact lt_of hv
  have r1 := blk_of hb (heap_alloc_new w (vo 0 0 emp)) (by simp)
  have r2 : w2.heap[w.heap.size]? = some (vo 0 0 emp) := (hk.block _ (lt_of r1) (by omega)).trans r1
  have hB2 : Below w.heap.size w w2 := by
    refine (below_on (below1 w _) hb).trans (hk.below (below_on (below1 w _) hb).size ?_)
    intro k hk2 e
    omega
  have hal : Below w2.heap.size w2 (w2.alloc (.cells #[a, b, c] 51)) := below1 w2 _
  refine ⟨blk_of hal r2 (lt_of r2), heap_alloc_new w2 _, h1.kept (Kept.ofBelow hal) (fun h => h) (fun _ _ h => h), hB2.alloc hB2.size _, by omega, by omega, by omega, ?_⟩
  simp
  omega

set_option maxRecDepth 100000 in
set_option maxHeartbeats 1600000 in
theorem decode_int (v : Value) (bs : List Int) (w : World) (h : Sl w v bs) (ho : Oct bs) (hl : bs.length ≤ 1000000000) (a1 : Nat) (e1 : Int) (xx : List Int) (hk : takeZ 0 1 bs 0 0 = ((1, xx), a1, e1)) (u : Int) (x2 : List Int) (a2 : Nat) (e2 : Int) (hk2 : takeZ 2 0 bs a1 e1 = ((u, x2), a2, e2)) (en : Int) (hen : endZ bs.length a2 e2 = en) (res : Value) (hz : res = if en = 0 then .tuple #[vl 1 (unfoldZ u) emp, .int .i64 0] else .tuple #[vl 0 0 emp, .int .i64 en]) :
    Calls Tryz.prog 107 #[v] w fun e w' => e = .returned res ∧ Below w.heap.size w w' := by
  have HS := hid h
  have HO := hid ho
  have HK := hid hk
  have HK2 := hid hk2
  have HE := hid hen
  have HZ := hid hz
  clear h ho hk hen hz hk2
  by_cases h0 : en = 0
  · subst h0
    go_enter Tryz.func107, Tryz.ntmps107
    go_wp2_with (first
      | (go_at_call 53
         refine (read_any v bs _ (HS.out.below (below1 w _)) HO.out hl).mono ?_
         rintro e w1 ⟨p, rfl, hp1, hr1, hb1⟩
         have H1 := hid (And.intro hp1 (And.intro hr1 hb1))
         clear hp1 hr1 hb1)
      | (go_at_call 104
         refine (rbyte_any p _ bs 0 0 w1 H1.out.2.1).mono ?_
         rintro e w2 ⟨hs2, rfl⟩
         rw [HK.out] at hs2 ⊢
         dsimp only
         have H2 := hid (fun a b c => Dst.mk' H1.out.1 H1.out.2.1 H1.out.2.2 hs2 a b c)
         clear hs2)
      | (go_at_call 117
         refine (rint_any p _ bs a1 e1 _ (H2.out (.int .i64 1) (.int .i64 0) (.string emp)).rd).mono ?_
         rintro e w3 ⟨hs3, rfl⟩
         rw [HK2.out] at hs3 ⊢
         dsimp only
         have H3 := hid ((H2.out (.int .i64 1) (.int .i64 0) (.string emp)).step hs3)
         obtain ⟨c0, c1, c2, ff⟩ := vfacts H3.out.hv
         clear hs3)
      | (go_at_call 57
         refine (end_any p _ bs a2 e2 _ (H3.out.set1 (.int .i64 (unfoldZ u))).rd).mono ?_
         rintro e w4 ⟨⟨nq, e4⟩, rfl⟩
         rw [HE.out]
         have H4 := hid ((H3.out.set1 (.int .i64 (unfoldZ u))).drewN nq)
         rw [← e4] at H4
         obtain ⟨c0, c1, c2, ff⟩ := vfacts H4.out.hv
         obtain ⟨d0, d1, d2, fg⟩ := vfacts H4.out.hr
         clear e4))
    refine bodyPost_ret (ret_agg2 Tryz.results107 rfl (set3 H4.out.hr _ _ _)) rfl ?_
    exact ⟨by rw [HZ.out]; rfl, Below.set3 H4.out.hb (Nat.le_refl _) _ _ _⟩
  · have hb0 : (en == 0) = false := by simpa using h0
    go_enter Tryz.func107, Tryz.ntmps107
    go_wp2_with (first
      | (go_at_call 53
         refine (read_any v bs _ (HS.out.below (below1 w _)) HO.out hl).mono ?_
         rintro e w1 ⟨p, rfl, hp1, hr1, hb1⟩
         have H1 := hid (And.intro hp1 (And.intro hr1 hb1))
         clear hp1 hr1 hb1)
      | (go_at_call 104
         refine (rbyte_any p _ bs 0 0 w1 H1.out.2.1).mono ?_
         rintro e w2 ⟨hs2, rfl⟩
         rw [HK.out] at hs2 ⊢
         dsimp only
         have H2 := hid (fun a b c => Dst.mk' H1.out.1 H1.out.2.1 H1.out.2.2 hs2 a b c)
         clear hs2)
      | (go_at_call 117
         refine (rint_any p _ bs a1 e1 _ (H2.out (.int .i64 1) (.int .i64 0) (.string emp)).rd).mono ?_
         rintro e w3 ⟨hs3, rfl⟩
         rw [HK2.out] at hs3 ⊢
         dsimp only
         have H3 := hid ((H2.out (.int .i64 1) (.int .i64 0) (.string emp)).step hs3)
         obtain ⟨c0, c1, c2, ff⟩ := vfacts H3.out.hv
         clear hs3)
      | (go_at_call 57
         refine (end_any p _ bs a2 e2 _ (H3.out.set1 (.int .i64 (unfoldZ u))).rd).mono ?_
         rintro e w4 ⟨⟨nq, e4⟩, rfl⟩
         rw [HE.out]
         have H4 := hid ((H3.out.set1 (.int .i64 (unfoldZ u))).drewN nq)
         rw [← e4] at H4
         obtain ⟨c0, c1, c2, ff⟩ := vfacts H4.out.hv
         obtain ⟨d0, d1, d2, fg⟩ := vfacts H4.out.hr
         clear e4))
    refine bodyPost_ret (ret_agg2 Tryz.results107 rfl (set3 H4.out.hr _ _ _)) rfl ?_
    exact ⟨by rw [HZ.out]; rw [if_neg h0]; rfl, Below.set3 H4.out.hb (Nat.le_refl _) _ _ _⟩

set_option maxRecDepth 100000 in
set_option maxHeartbeats 1600000 in
theorem decode_text (v : Value) (bs : List Int) (w : World) (h : Sl w v bs) (ho : Oct bs) (hl : bs.length ≤ 1000000000) (a1 : Nat) (e1 : Int) (xx : List Int) (hk : takeZ 0 1 bs 0 0 = ((2, xx), a1, e1)) (u : Int) (x2 : List Int) (a2 : Nat) (e2 : Int) (hk2 : takeZ 3 256 bs a1 e1 = ((u, x2), a2, e2)) (en : Int) (hen : endZ bs.length a2 e2 = en) (res : Value) (hz : res = if en = 0 then .tuple #[vl 2 0 (mkStr x2), .int .i64 0] else .tuple #[vl 0 0 emp, .int .i64 en]) :
    Calls Tryz.prog 107 #[v] w fun e w' => e = .returned res ∧ Below w.heap.size w w' := by
  have HS := hid h
  have HO := hid ho
  have HK := hid hk
  have HK2 := hid hk2
  have HE := hid hen
  have HZ := hid hz
  clear h ho hk hen hz hk2
  by_cases h0 : en = 0
  · subst h0
    go_enter Tryz.func107, Tryz.ntmps107
    go_wp2_with (first
      | (go_at_call 53
         refine (read_any v bs _ (HS.out.below (below1 w _)) HO.out hl).mono ?_
         rintro e w1 ⟨p, rfl, hp1, hr1, hb1⟩
         have H1 := hid (And.intro hp1 (And.intro hr1 hb1))
         clear hp1 hr1 hb1)
      | (go_at_call 104
         refine (rbyte_any p _ bs 0 0 w1 H1.out.2.1).mono ?_
         rintro e w2 ⟨hs2, rfl⟩
         rw [HK.out] at hs2 ⊢
         dsimp only
         have H2 := hid (fun a b c => Dst.mk' H1.out.1 H1.out.2.1 H1.out.2.2 hs2 a b c)
         clear hs2)
      | (go_at_call 106
         refine (rtext_any p _ bs a1 e1 256 _ (H2.out (.int .i64 2) (.int .i64 0) (.string emp)).rd (by omega) (by omega)).mono ?_
         rintro e w3 ⟨hs3, rfl⟩
         rw [HK2.out] at hs3 ⊢
         dsimp only
         have H3 := hid ((H2.out (.int .i64 2) (.int .i64 0) (.string emp)).step hs3)
         obtain ⟨c0, c1, c2, ff⟩ := vfacts H3.out.hv
         clear hs3)
      | (go_at_call 57
         refine (end_any p _ bs a2 e2 _ (H3.out.set2 (.string (mkStr x2))).rd).mono ?_
         rintro e w4 ⟨⟨nq, e4⟩, rfl⟩
         rw [HE.out]
         have H4 := hid ((H3.out.set2 (.string (mkStr x2))).drewN nq)
         rw [← e4] at H4
         obtain ⟨c0, c1, c2, ff⟩ := vfacts H4.out.hv
         obtain ⟨d0, d1, d2, fg⟩ := vfacts H4.out.hr
         clear e4))
    refine bodyPost_ret (ret_agg2 Tryz.results107 rfl (set3 H4.out.hr _ _ _)) rfl ?_
    exact ⟨by rw [HZ.out]; rfl, Below.set3 H4.out.hb (Nat.le_refl _) _ _ _⟩
  · have hb0 : (en == 0) = false := by simpa using h0
    go_enter Tryz.func107, Tryz.ntmps107
    go_wp2_with (first
      | (go_at_call 53
         refine (read_any v bs _ (HS.out.below (below1 w _)) HO.out hl).mono ?_
         rintro e w1 ⟨p, rfl, hp1, hr1, hb1⟩
         have H1 := hid (And.intro hp1 (And.intro hr1 hb1))
         clear hp1 hr1 hb1)
      | (go_at_call 104
         refine (rbyte_any p _ bs 0 0 w1 H1.out.2.1).mono ?_
         rintro e w2 ⟨hs2, rfl⟩
         rw [HK.out] at hs2 ⊢
         dsimp only
         have H2 := hid (fun a b c => Dst.mk' H1.out.1 H1.out.2.1 H1.out.2.2 hs2 a b c)
         clear hs2)
      | (go_at_call 106
         refine (rtext_any p _ bs a1 e1 256 _ (H2.out (.int .i64 2) (.int .i64 0) (.string emp)).rd (by omega) (by omega)).mono ?_
         rintro e w3 ⟨hs3, rfl⟩
         rw [HK2.out] at hs3 ⊢
         dsimp only
         have H3 := hid ((H2.out (.int .i64 2) (.int .i64 0) (.string emp)).step hs3)
         obtain ⟨c0, c1, c2, ff⟩ := vfacts H3.out.hv
         clear hs3)
      | (go_at_call 57
         refine (end_any p _ bs a2 e2 _ (H3.out.set2 (.string (mkStr x2))).rd).mono ?_
         rintro e w4 ⟨⟨nq, e4⟩, rfl⟩
         rw [HE.out]
         have H4 := hid ((H3.out.set2 (.string (mkStr x2))).drewN nq)
         rw [← e4] at H4
         obtain ⟨c0, c1, c2, ff⟩ := vfacts H4.out.hv
         obtain ⟨d0, d1, d2, fg⟩ := vfacts H4.out.hr
         clear e4))
    refine bodyPost_ret (ret_agg2 Tryz.results107 rfl (set3 H4.out.hr _ _ _)) rfl ?_
    exact ⟨by rw [HZ.out]; rw [if_neg h0]; rfl, Below.set3 H4.out.hb (Nat.le_refl _) _ _ _⟩

set_option maxRecDepth 100000 in
set_option maxHeartbeats 1600000 in
theorem decode_none (v : Value) (bs : List Int) (w : World) (h : Sl w v bs) (ho : Oct bs) (hl : bs.length ≤ 1000000000) (a1 : Nat) (e1 : Int) (xx : List Int) (hk : takeZ 0 1 bs 0 0 = ((0, xx), a1, e1)) (en : Int) (hen : endZ bs.length a1 e1 = en) (res : Value) (hz : res = if en = 0 then .tuple #[vl 0 0 emp, .int .i64 0] else .tuple #[vl 0 0 emp, .int .i64 en]) :
    Calls Tryz.prog 107 #[v] w fun e w' => e = .returned res ∧ Below w.heap.size w w' := by
  have HS := hid h
  have HO := hid ho
  have HK := hid hk
  have HE := hid hen
  have HZ := hid hz
  clear h ho hk hen hz
  by_cases h0 : en = 0
  · subst h0
    go_enter Tryz.func107, Tryz.ntmps107
    go_wp2_with (first
      | (go_at_call 53
         refine (read_any v bs _ (HS.out.below (below1 w _)) HO.out hl).mono ?_
         rintro e w1 ⟨p, rfl, hp1, hr1, hb1⟩
         have H1 := hid (And.intro hp1 (And.intro hr1 hb1))
         clear hp1 hr1 hb1)
      | (go_at_call 104
         refine (rbyte_any p _ bs 0 0 w1 H1.out.2.1).mono ?_
         rintro e w2 ⟨hs2, rfl⟩
         rw [HK.out] at hs2 ⊢
         dsimp only
         have H2 := hid (fun a b c => Dst.mk' H1.out.1 H1.out.2.1 H1.out.2.2 hs2 a b c)
         clear hs2)
      | (go_at_call 57
         refine (end_any p _ bs a1 e1 _ (H2.out (.int .i64 0) (.int .i64 0) (.string emp)).rd).mono ?_
         rintro e w4 ⟨⟨nq, e4⟩, rfl⟩
         rw [HE.out]
         have H4 := hid ((H2.out (.int .i64 0) (.int .i64 0) (.string emp)).drewN nq)
         rw [← e4] at H4
         obtain ⟨c0, c1, c2, ff⟩ := vfacts H4.out.hv
         obtain ⟨d0, d1, d2, fg⟩ := vfacts H4.out.hr
         clear e4))
    refine bodyPost_ret (ret_agg2 Tryz.results107 rfl (set3 H4.out.hr _ _ _)) rfl ?_
    exact ⟨by rw [HZ.out]; rfl, Below.set3 H4.out.hb (Nat.le_refl _) _ _ _⟩
  · have hb0 : (en == 0) = false := by simpa using h0
    go_enter Tryz.func107, Tryz.ntmps107
    go_wp2_with (first
      | (go_at_call 53
         refine (read_any v bs _ (HS.out.below (below1 w _)) HO.out hl).mono ?_
         rintro e w1 ⟨p, rfl, hp1, hr1, hb1⟩
         have H1 := hid (And.intro hp1 (And.intro hr1 hb1))
         clear hp1 hr1 hb1)
      | (go_at_call 104
         refine (rbyte_any p _ bs 0 0 w1 H1.out.2.1).mono ?_
         rintro e w2 ⟨hs2, rfl⟩
         rw [HK.out] at hs2 ⊢
         dsimp only
         have H2 := hid (fun a b c => Dst.mk' H1.out.1 H1.out.2.1 H1.out.2.2 hs2 a b c)
         clear hs2)
      | (go_at_call 57
         refine (end_any p _ bs a1 e1 _ (H2.out (.int .i64 0) (.int .i64 0) (.string emp)).rd).mono ?_
         rintro e w4 ⟨⟨nq, e4⟩, rfl⟩
         rw [HE.out]
         have H4 := hid ((H2.out (.int .i64 0) (.int .i64 0) (.string emp)).drewN nq)
         rw [← e4] at H4
         obtain ⟨c0, c1, c2, ff⟩ := vfacts H4.out.hv
         obtain ⟨d0, d1, d2, fg⟩ := vfacts H4.out.hr
         clear e4))
    refine bodyPost_ret (ret_agg2 Tryz.results107 rfl (set3 H4.out.hr _ _ _)) rfl ?_
    exact ⟨by rw [HZ.out]; rw [if_neg h0]; rfl, Below.set3 H4.out.hb (Nat.le_refl _) _ _ _⟩

theorem below_unalloc {w w2 : World} {o : Obj} (h : Below w.heap.size w (w2.alloc o)) (hs : w.heap.size ≤ w2.heap.size) : Below w.heap.size w w2 :=
  ⟨h.os, h.tape, h.output, hs, fun k hk => (Below.heap_alloc _ _ _ (by omega)).symm.trans (h.block k hk)⟩

set_option maxRecDepth 100000 in
set_option maxHeartbeats 1600000 in
theorem decode_else (v : Value) (bs : List Int) (w : World) (h : Sl w v bs) (ho : Oct bs) (hl : bs.length ≤ 1000000000) (kk : Int) (a1 : Nat) (e1 : Int) (xx : List Int) (hk : takeZ 0 1 bs 0 0 = ((kk, xx), a1, e1)) (k0 : 3 ≤ kk) (k1 : kk < 256) :
    Calls Tryz.prog 107 #[v] w fun e w' => e = .returned (.tuple #[vl 0 0 emp, .int .i64 3]) ∧ Below w.heap.size w w' := by
  have HS := hid h
  have HO := hid ho
  have HK := hid hk
  clear h ho hk
  have b0 : (kk == 0) = false := by simp; omega
  have b1 : (kk == 1) = false := by simp; omega
  have b2 : (kk == 2) = false := by simp; omega
  go_enter Tryz.func107, Tryz.ntmps107
  go_wp2_with (first
      | (go_at_call 53
         refine (read_any v bs _ (HS.out.below (below1 w _)) HO.out hl).mono ?_
         rintro e w1 ⟨p, rfl, hp1, hr1, hb1⟩
         have H1 := hid (And.intro hp1 (And.intro hr1 hb1))
         clear hp1 hr1 hb1)
      | (go_at_call 104
         refine (rbyte_any p _ bs 0 0 w1 H1.out.2.1).mono ?_
         rintro e w2 ⟨hs2, rfl⟩
         rw [HK.out] at hs2 ⊢
         dsimp only
         have H2 := hid (Dst.mk' H1.out.1 H1.out.2.1 H1.out.2.2 hs2 (.int .i64 kk) (.int .i64 0) (.string emp))
         have ql := H2.out.hq
         have R2 := hid ((Below.heap_alloc _ _ _ ql).symm.trans H2.out.hr)
         have HB2 := hid (below_unalloc H2.out.hb (Nat.le_of_lt ql))
         obtain ⟨d0, d1, d2, fg⟩ := vfacts ((Below.heap_alloc _ _ _ ql).symm.trans H2.out.hr)
         clear hs2))
  refine bodyPost_ret (ret_agg2 Tryz.results107 rfl ((Below.heap_alloc _ _ _ (by simpa [World.setCell] using ql)).trans (set3 R2.out _ _ _))) rfl ?_
  exact ⟨rfl, (Below.set3 HB2.out (Nat.le_refl _) _ _ _).alloc (by simpa [World.setCell] using Nat.le_of_lt ql) _⟩

theorem decode_any (v : Value) (bs : List Int) (w : World) (h : Sl w v bs) (ho : Oct bs) (hl : bs.length ≤ 1000000000) :
    Calls Tryz.prog 107 #[v] w fun e w' => e = .returned (decV (decZ bs)) ∧ Below w.heap.size w w' := by
  have hb := takeZ_bd 0 1 bs 0 0 ho
  obtain ⟨⟨⟨kk, xx⟩, a1, e1⟩, ht⟩ : ∃ t, takeZ 0 1 bs 0 0 = t := ⟨_, rfl⟩
  rw [ht] at hb
  have h0 : 0 ≤ kk := hb.1
  have h1 : kk < 256 := hb.2.2.2 rfl rfl
  by_cases k0 : kk = 0
  · subst k0
    refine decode_none v bs w h ho hl a1 e1 xx ht _ rfl _ ?_
    simp [decV, decZ, ht, mkStr_nil]
  · by_cases k1 : kk = 1
    · subst k1
      obtain ⟨⟨⟨u, x2⟩, a2, e2⟩, ht2⟩ : ∃ t, takeZ 2 0 bs a1 e1 = t := ⟨_, rfl⟩
      refine decode_int v bs w h ho hl a1 e1 xx ht u x2 a2 e2 ht2 _ rfl _ ?_
      simp [decV, decZ, ht, ht2, mkStr_nil]
    · by_cases k2 : kk = 2
      · subst k2
        obtain ⟨⟨⟨u, x2⟩, a2, e2⟩, ht2⟩ : ∃ t, takeZ 3 256 bs a1 e1 = t := ⟨_, rfl⟩
        refine decode_text v bs w h ho hl a1 e1 xx ht u x2 a2 e2 ht2 _ rfl _ ?_
        simp [decV, decZ, ht, ht2]
      · have hd : decV (decZ bs) = .tuple #[vl 0 0 emp, .int .i64 3] := by simp [decV, decZ, ht, k0, k1, k2]
        rw [hd]
        exact decode_else v bs w h ho hl kk a1 e1 xx ht (by omega) h1

end Go.Proofs.YtdnlfacfleemeaaGreat

namespace Go.Proofs.YtdnlfacfleemeaaGreat
open Go.RowKit

/-- A Reader of the document, as a value. -/
def rrV (v : Value) (at' e st : Int) : Value := .agg #[v, .int .i64 at', .int .i64 e, .int .i64 st]

set_option maxRecDepth 100000 in
set_option maxHeartbeats 800000 in
theorem rends_any (ao : Option Addr) (n c : Nat) (at' e st e2 : Int) (w : World) :
    Calls Tryz.prog 59 #[.agg #[.slice ao n c, .int .i64 at', .int .i64 e, .int .i64 st], .int .i64 e2] w fun x w' => x = .returned (.agg #[.slice ao n c, .int .i64 at', .int .i64 e2, .int .i64 at']) ∧ Below w.heap.size w w' := by
  go_enter Tryz.func59, Tryz.ntmps59
  go_wp2
  refine bodyPost_ret (v := .agg #[.slice ao n c, .int .i64 at', .int .i64 e2, .int .i64 at']) (by simp [results, Tryz.results59, go_sem]) rfl ?_
  exact ⟨rfl, ((Below.refl _ _).alloc (Nat.le_refl _) _).alloc (by simp) _⟩

set_option maxRecDepth 100000 in
set_option maxHeartbeats 800000 in
theorem rread_any (ao : Option Addr) (n c : Nat) (w : World) :
    Calls Tryz.prog 29 #[.slice ao n c] w fun x w' => x = .returned (.agg #[.slice ao n c, .int .i64 0, .int .i64 0, .int .i64 0]) ∧ Below w.heap.size w w' := by
  go_enter Tryz.func29, Tryz.ntmps29
  go_wp2
  refine bodyPost_ret (v := .agg #[.slice ao n c, .int .i64 0, .int .i64 0, .int .i64 0]) (by simp [results, Tryz.results29, go_sem]) rfl ?_
  exact ⟨rfl, (Below.refl _ _).alloc (Nat.le_refl _) _⟩

set_option maxRecDepth 100000 in
set_option maxHeartbeats 800000 in
theorem rend_any (ao : Option Addr) (n c at' : Nat) (e st : Int) (w : World) (_hn : n ≤ 1000000000) (_ha : at' ≤ n) :
    Calls Tryz.prog 32 #[.agg #[.slice ao n c, .int .i64 at', .int .i64 e, .int .i64 st]] w fun x w' => x = .returned (.int .i64 (endZ n at' e)) ∧ Below w.heap.size w w' := by
  unfold endZ
  by_cases he : e = 0
  · subst he
    rw [if_pos rfl]
    by_cases hl : at' < n
    · rw [if_pos hl]
      go_enter Tryz.func32, Tryz.ntmps32
      go_wp2
      go_ret
      exact ⟨rfl, (Below.refl _ _).alloc (Nat.le_refl _) _⟩
    · rw [if_neg hl]
      go_enter Tryz.func32, Tryz.ntmps32
      go_wp2
      go_ret
      exact ⟨rfl, (Below.refl _ _).alloc (Nat.le_refl _) _⟩
  · rw [if_neg he]
    have he2 : (e == 0) = false := by simpa using he
    go_enter Tryz.func32, Tryz.ntmps32
    go_wp2
    go_ret
    exact ⟨rfl, (Below.refl _ _).alloc (Nat.le_refl _) _⟩

/-- What a taking call of the document leaves: the answer 'res', and the Reader. -/
def RRPost (w : World) (v : Value) (z : (Int × List Int) × Nat × Int) (res : Value) (x : Ending) (w' : World) : Prop :=
  ∃ st2 : Int, x = .returned (.tuple #[res, .agg #[v, .int .i64 z.2.1, .int .i64 z.2.2, .int .i64 st2]]) ∧ (z.2.2 ≠ 0 → st2 = z.2.1) ∧ Below w.heap.size w w'

theorem cell_of_four {w : World} {p : Nat} {a b c d : Value} {t : TypeId} (h : w.heap[p]? = some (.cells #[a, b, c, d] t (0, 0))) : w.cell? ⟨p, 0, none⟩ = some a ∧ w.cell? ⟨p, 1, none⟩ = some b ∧ w.cell? ⟨p, 2, none⟩ = some c ∧ w.cell? ⟨p, 3, none⟩ = some d := by
  refine ⟨?_, ?_, ?_, ?_⟩
  · rw [cell_of_row w p 0 _ t (0, 0) h]; rfl
  · rw [cell_of_row w p 1 _ t (0, 0) h]; rfl
  · rw [cell_of_row w p 2 _ t (0, 0) h]; rfl
  · rw [cell_of_row w p 3 _ t (0, 0) h]; rfl

theorem new2r (w : World) (X Y : Obj) : ((w.alloc X).alloc Y).heap[w.heap.size + 1]? = some Y ∧ ((w.alloc X).alloc Y).heap[w.heap.size]? = some X := by
  constructor
  · have := heap_alloc_new (w.alloc X) Y
    simpa using this
  · rw [Below.heap_alloc _ _ _ (by simp)]
    exact heap_alloc_new w X

theorem takeZ_stop (f n : Int) (bs : List Int) (at' : Nat) (e : Int) (he : e ≠ 0) : takeZ f n bs at' e = ((0, []), at', e) := by
  unfold takeZ; rw [if_neg he]

set_option maxRecDepth 100000 in
set_option maxHeartbeats 800000 in
theorem rtakeByte_any (v : Value) (bs : List Int) (at' : Nat) (e st : Int) (w : World) (h : Sl w v bs) (hl : bs.length ≤ 1000000000) (ha : at' ≤ bs.length) (hst : e ≠ 0 → st = at') :
    Calls Tryz.prog 60 #[.agg #[v, .int .i64 at', .int .i64 e, .int .i64 st]] w fun x w' => RRPost w v (takeZ 0 1 bs at' e) (.int .u8 (takeZ 0 1 bs at' e).1.1) x w' := by
  obtain ⟨ao, c, rfl, hc, hx⟩ := h
  by_cases he : e = 0
  · subst he
    by_cases hlt : at' < bs.length
    · have hz : takeZ 0 1 bs at' 0 = ((bs[at'], []), at' + 1, 0) := by
        have hd : bs.drop at' = bs[at'] :: bs.drop (at' + 1) := List.drop_eq_getElem_cons hlt
        have hle : leadZ 0 (bs.drop at') 1 = (bs[at'], 1, 0) := by
          have hln : ((bs.drop at').length : Int) = (bs.length : Int) - at' := by rw [List.length_drop]; omega
          unfold leadZ fixZ
          rw [if_pos rfl, if_neg (by omega), if_neg (by omega), hd]
          show (bs[at'] + 256 * 0, (1 : Int), (0 : Int)) = _
          rw [Int.mul_zero, Int.add_zero]
        unfold takeZ
        rw [if_pos rfl, hle]
        rfl
      rw [hz]
      obtain ⟨b, off, rfl, hj⟩ := hx (by intro e; subst e; simp at hlt)
      have hcj := hj at' bs[at'] (by simp [hlt])
      obtain ⟨y, hy⟩ : ∃ y, y = bs[at'] := ⟨_, rfl⟩
      rw [← hy] at hcj
      rw [← hy]
      have hbl := World.block_lt_of_cell? _ _ hcj
      clear hy hj hx hz hst
      go_enter Tryz.func60, Tryz.ntmps60
      go_wp2
      go_region
      all_goals go_wp2
      all_goals
        refine bodyPost_ret (v := .tuple #[.int .u8 y, .agg #[.slice (some ⟨b, off, none⟩) bs.length c, .int .i64 ((at' : Int) + 1), .int .i64 0, .int .i64 st]]) (by simp [results, Tryz.results60, go_sem]) rfl ?_
        exact ⟨st, by simp, fun h => absurd rfl h, (((Below.refl _ _).alloc (Nat.le_refl _) _).alloc (by simp) _).drew⟩
    · have hz : takeZ 0 1 bs at' 0 = ((0, []), at', 2) := by
        have hln : ((bs.drop at').length : Int) = 0 := by rw [List.length_drop]; omega
        have hle : leadZ 0 (bs.drop at') 1 = (0, 0, 2) := by
          unfold leadZ fixZ
          rw [if_pos rfl, if_neg (by omega), if_pos (by omega)]
        unfold takeZ
        rw [if_pos rfl, hle]
        rfl
      rw [hz]
      clear hx hz hst
      go_enter Tryz.func60, Tryz.ntmps60
      go_wp2_with (go_at_call 59; refine (rends_any ao bs.length c at' 0 st 2 _).mono ?_; rintro x w1 ⟨rfl, hb1⟩; have hq := (hb1.block (w.heap.size + 1) (by simp)).trans (new2r w _ _).1; obtain ⟨q0, q1, q2, q3⟩ := cell_of_four hq; have z0 := free_of_block (o := 0) hq; have z1 := free_of_block (o := 1) hq; have z2 := free_of_block (o := 2) hq; have z3 := free_of_block (o := 3) hq; have HB := hid hb1; clear hq hb1)
      refine bodyPost_ret (v := .tuple #[.int .u8 0, .agg #[.slice ao bs.length c, .int .i64 (at' : Int), .int .i64 2, .int .i64 (at' : Int)]]) (by simp [results, Tryz.results60, go_sem, q0, q1, q2, q3]) rfl ?_
      refine ⟨at', rfl, fun _ => rfl, ?_⟩
      have hb0 : ∀ X Y : Obj, Below w.heap.size w ((w.alloc X).alloc Y) := fun X Y => ((Below.refl _ _).alloc (Nat.le_refl _) _).alloc (by simp) _
      exact (((((hb0 _ _).trans (HB.out.mono (by simp; omega))).setCell (by simp) _).setCell (by simp) _).setCell (by simp) _).setCell (by simp) _
  · rw [takeZ_stop 0 1 bs at' e he]
    have he2 : (e != 0) = true := by simpa using he
    have HS := hid (hst he)
    clear hx hst
    go_enter Tryz.func60, Tryz.ntmps60
    go_wp2
    go_region
    all_goals go_wp2
    all_goals
      refine bodyPost_ret (v := .tuple #[.int .u8 0, .agg #[.slice ao bs.length c, .int .i64 (at' : Int), .int .i64 e, .int .i64 st]]) (by simp [results, Tryz.results60, go_sem]) rfl ?_
      exact ⟨st, rfl, fun _ => HS.out, (((Below.refl _ _).alloc (Nat.le_refl _) _).alloc (by simp) _).drew⟩

end Go.Proofs.YtdnlfacfleemeaaGreat

namespace Go.Proofs.YtdnlfacfleemeaaGreat
open Go.RowKit

theorem below2r (w : World) (X Y : Obj) : Below w.heap.size w ((w.alloc X).alloc Y) := ((Below.refl _ _).alloc (Nat.le_refl _) _).alloc (by simp) _

theorem leZ_drop (L : List Int) (j : Nat) (h : j < L.length) : leZ (L.drop j) = L[j] + 256 * leZ (L.drop (j + 1)) := by
  rw [List.drop_eq_getElem_cons h, leZ]

theorem pow256_7 (k : Nat) (h : k ≤ 7) : (256 : Int) ^ k ≤ 72057594037927936 := by
  match k, h with
  | 0, _ | 1, _ | 2, _ | 3, _ | 4, _ | 5, _ | 6, _ | 7, _ => decide

end Go.Proofs.YtdnlfacfleemeaaGreat

namespace Go.Proofs.YtdnlfacfleemeaaGreat
open Go.RowKit

/-- What the document's 'row' answers. -/
def rrowZ (most : Nat) (last : Int) (bs : List Int) (at' : Nat) : Int × Int × Int :=
  ((rowGo most last (bs.drop at') 0 0).1, if (rowGo most last (bs.drop at') 0 0).2.2 = 0 then (at' : Int) + (rowGo most last (bs.drop at') 0 0).2.1 else 0, (rowGo most last (bs.drop at') 0 0).2.2)

def tup3i (x : Int × Int × Int) : Value := .tuple #[.int .u64 x.1, .int .i64 x.2.1, .int .i64 x.2.2]

theorem pow128_8 (k : Nat) (h : k ≤ 8) : (128 : Int) ^ k ≤ 72057594037927936 := by
  match k, h with
  | 0, _ | 1, _ | 2, _ | 3, _ | 4, _ | 5, _ | 6, _ | 7, _ | 8, _ => decide

theorem seven_fit (u c : Int) (k : Nat) (hk : k ≤ 9) (hu0 : 0 ≤ u) (hu : u < 128 ^ k) (hc0 : 0 ≤ c) (hc : c < 128) (h9 : k = 9 → c ≤ 1) :
    0 ≤ c * 128 ^ k ∧ c * 128 ^ k < 18446744073709551616 ∧ u + c * 128 ^ k < 18446744073709551616 := by
  have hp : (0 : Int) < 128 ^ k := Int.pow_pos (by omega)
  have hn : 0 ≤ c * 128 ^ k := Int.mul_nonneg hc0 (by omega)
  by_cases h : k = 9
  · subst h
    have := h9 rfl
    have h1 : c * 128 ^ 9 ≤ 1 * 128 ^ 9 := Int.mul_le_mul_of_nonneg_right this (by omega)
    have e : (128 : Int) ^ 9 = 9223372036854775808 := by decide
    omega
  · have h8 := pow128_8 k (by omega)
    have hb : c * 128 ^ k ≤ 127 * 128 ^ k := Int.mul_le_mul_of_nonneg_right (by omega) (by omega)
    omega

theorem below_drewN' (w : World) (n B : Nat) : Below B w (w.drewN n) := ⟨rfl, rfl, rfl, Nat.le_refl _, fun _ _ => rfl⟩

theorem rowGo_at' (last : Nat) (top : Int) (bs : List Int) (at' j : Nat) (u : Int) (h : at' + j < bs.length) :
    rowGo last top (bs.drop (at' + j)) j u = if j + 1 = last ∧ top < bs[at' + j] then (0, 0, 15)
    else if 128 ≤ bs[at' + j] then rowGo last top (bs.drop (at' + (j + 1))) (j + 1) (u + bs[at' + j] % 128 * 128 ^ j)
    else if 0 < j ∧ bs[at' + j] = 0 then (0, 0, 3)
    else (u + bs[at' + j] % 128 * 128 ^ j, (j : Int) + 1, 0) := by
  rw [List.drop_eq_getElem_cons h, rowGo]
  rfl

set_option maxRecDepth 100000 in
set_option maxHeartbeats 1600000 in
theorem rrow_any (v : Value) (bs : List Int) (at' : Nat) (e st : Int) (most : Nat) (last : Int) (w : World) (h : Sl w v bs) (ho : Oct bs) (hl : bs.length ≤ 1000000000) (ha : at' ≤ bs.length) (hl1 : 1 ≤ most) (hl2 : most ≤ 10) (ht0 : 0 ≤ last) (ht : last < 128) (ht1 : most = 10 → last ≤ 1) :
    Calls Tryz.prog 58 #[.agg #[v, .int .i64 at', .int .i64 e, .int .i64 st], .int .i64 most, .int .u8 last] w fun x w' => x = .returned (tup3i (rrowZ most last bs at')) ∧ Below w.heap.size w w' := by
  obtain ⟨ao, cap, rfl, hc, hx⟩ := h
  have Hx := hid hx
  clear hx
  obtain ⟨Z, hZ⟩ : ∃ Z, Z = rrowZ most last bs at' := ⟨_, rfl⟩
  rw [← hZ]
  have HZ := hid hZ
  clear hZ
  have hb0 : ∀ X : Obj, Below w.heap.size w (w.alloc X) := fun X => (Below.refl _ _).alloc (Nat.le_refl _) _
  have Hb := hid hb0
  clear hb0
  go_enter Tryz.func58, Tryz.ntmps58
  go_wp2
  go_loop [9, 10, 11, 12, 13] (fun u i _ _ _ => ∃ (j : Nat) (y : Int), at' + j ≤ bs.length ∧ j < most ∧ i = .int .i64 j ∧ u = .int .u64 y ∧ 0 ≤ y ∧ y < 18446744073709551616 ∧ Hid (y < 128 ^ j) ∧ Hid (rowGo most last (bs.drop (at' + j)) j y = rowGo most last (bs.drop at') 0 0)) (fun _ i _ _ _ => most - (intOf i).toNat)
  case atStart => exact ⟨0, 0, by omega, by omega, rfl, rfl, by omega, by omega, hid (by decide), hid rfl⟩
  case round =>
    obtain ⟨j, y, hj, hjl, rfl, rfl, hy0, hy2, hy1, hgo⟩ := hrel
    by_cases hlt : at' + j < bs.length
    · obtain ⟨b, off, rfl, hcell⟩ := Hx.out (by intro e; subst e; simp at hlt)
      have hcj := hcell (at' + j) bs[at' + j] (by simp [hlt])
      have hbl := World.block_lt_of_cell? _ _ hcj
      have hb := ho bs[at' + j] (List.getElem_mem hlt)
      have hat := rowGo_at' most last bs at' j y hlt
      rw [hgo.out] at hat
      obtain ⟨c, hc'⟩ : ∃ c, c = bs[at' + j] := ⟨_, rfl⟩
      rw [← hc'] at hcj hb hat
      obtain ⟨hb0, hb1⟩ := hb
      have Ha := hid hat
      have hi3 : (at' : Int) + (j : Int) < (bs.length : Int) := by omega
      clear hc' hcell hat hgo
      by_cases hr : j + 1 = most ∧ last < c
      · have Hres := hid (show rowGo most last (bs.drop at') 0 0 = (0, 0, 15) by rw [Ha.out, if_pos hr])
        obtain ⟨hr1, hr2⟩ := hr
        have hr3 : ((j : Int) == (most : Int) - 1) = true := by simp; omega
        clear hr1
        go_wp2
        go_ret3
        refine ⟨?_, Hb.out _⟩
        rw [HZ.out]
        unfold rrowZ
        rw [Hres.out]
        rfl
      · have hfit := seven_fit y (c % 128) j (by omega) hy0 hy1 (by omega) (by omega) (by omega)
        obtain ⟨P, hP⟩ : ∃ P : Int, P = 128 ^ j := ⟨_, rfl⟩
        rw [← hP] at hfit Ha
        obtain ⟨f0, f1, f2⟩ := hfit
        have hw1 : IntKind.u64.wrap (c % 128 * P) = c % 128 * P := by rw [IntKind.wrap_u64]; omega
        have hw2 : IntKind.u64.wrap (y + c % 128 * P) = y + c % 128 * P := by rw [IntKind.wrap_u64]; omega
        have HP := hid hP
        have hbd := hid (seven_bd y (c % 128) j hy0 hy1 (by omega) (by omega))
        clear hP
        by_cases hr1 : (j : Int) = (most : Int) - 1
        · have hr3 : ((j : Int) == (most : Int) - 1) = true := by simpa using hr1
          have hcl : c ≤ last := by omega
          have hr4 : ¬ ((j : Int) + 1 < most) := by omega
          clear hr1
          go_wp2
          go_loop [12, 13] (fun s k => ∃ (m : Nat) (q : Int), m ≤ j ∧ k = .int .i64 m ∧ s = .int .u64 q ∧ 0 ≤ q ∧ q ≤ 9223372036854775808 ∧ Hid (q = 128 ^ m)) (fun _ k => j - (intOf k).toNat)
          case atStart => exact ⟨0, 1, by omega, rfl, rfl, by omega, by omega, hid rfl⟩
          case round =>
            obtain ⟨m, q, hm, rfl, rfl, hq0, hq1, hq⟩ := hrel
            by_cases hml : m < j
            · have h8 := pow128_8 m (by omega)
              rw [← hq.out] at h8
              go_wp2
              go_round
              case rel => exact ⟨m + 1, q * 128, by omega, by go_num, by first | rfl | go_num, by omega, by omega, hid (by rw [hq.out, Int.pow_succ])⟩
              case measure => simp [intOf]; omega
            · obtain rfl : m = j := by omega
              obtain rfl : q = P := by rw [hq.out, HP.out]
              by_cases hc8 : 128 ≤ c
              · exfalso; omega
              · by_cases hz : 0 < m ∧ c = 0
                · have Hres := hid (show rowGo most last (bs.drop at') 0 0 = (0, 0, 3) by rw [Ha.out, if_neg hr, if_neg hc8, if_pos hz])
                  obtain ⟨hz1, hz2⟩ := hz
                  clear hr
                  go_wp2
                  go_ret3
                  refine ⟨?_, Hb.out _⟩
                  rw [HZ.out]
                  unfold rrowZ
                  rw [Hres.out]
                  rfl
                · have Hres := hid (show rowGo most last (bs.drop at') 0 0 = (y + c % 128 * q, (m : Int) + 1, 0) by rw [Ha.out, if_neg hr, if_neg hc8, if_neg hz])
                  clear hr
                  by_cases hj0 : 0 < m
                  · have hz2 : ¬ c = 0 := by omega
                    clear hz
                    go_wp2
                    go_quiet (fail)
                    go_wp2
                    go_ret3
                    refine ⟨?_, (Hb.out _).trans (below_drewN' _ _ _)⟩
                    rw [HZ.out]
                    unfold rrowZ
                    rw [Hres.out]
                    simp [tup3i, Int.add_assoc]
                  · clear hz
                    go_wp2
                    go_quiet (fail)
                    go_wp2
                    go_ret3
                    refine ⟨?_, (Hb.out _).trans (below_drewN' _ _ _)⟩
                    rw [HZ.out]
                    unfold rrowZ
                    rw [Hres.out]
                    simp [tup3i, Int.add_assoc]
        · have hr2 : ((j : Int) == (most : Int) - 1) = false := by simpa using hr1
          have hr4 : (j : Int) + 1 < most := by omega
          clear hr1
          go_wp2
          go_loop [12, 13] (fun s k => ∃ (m : Nat) (q : Int), m ≤ j ∧ k = .int .i64 m ∧ s = .int .u64 q ∧ 0 ≤ q ∧ q ≤ 9223372036854775808 ∧ Hid (q = 128 ^ m)) (fun _ k => j - (intOf k).toNat)
          case atStart => exact ⟨0, 1, by omega, rfl, rfl, by omega, by omega, hid rfl⟩
          case round =>
            obtain ⟨m, q, hm, rfl, rfl, hq0, hq1, hq⟩ := hrel
            by_cases hml : m < j
            · have h8 := pow128_8 m (by omega)
              rw [← hq.out] at h8
              go_wp2
              go_round
              case rel => exact ⟨m + 1, q * 128, by omega, by go_num, by first | rfl | go_num, by omega, by omega, hid (by rw [hq.out, Int.pow_succ])⟩
              case measure => simp [intOf]; omega
            · obtain rfl : m = j := by omega
              obtain rfl : q = P := by rw [hq.out, HP.out]
              by_cases hc8 : 128 ≤ c
              · have Hres := hid (show rowGo most last (bs.drop at') 0 0 = rowGo most last (bs.drop (at' + (m + 1))) (m + 1) (y + c % 128 * q) by rw [Ha.out, if_neg hr, if_pos hc8])
                have hr9 : m + 1 < most := by omega
                clear hr
                go_wp2
                go_round
                case rel => exact ⟨m + 1, y + c % 128 * q, by omega, by omega, by go_num, by first | rfl | go_num, by omega, by omega, hid (by rw [HP.out]; exact hbd.out.2), hid Hres.out.symm⟩
                case measure => simp [intOf]; omega
              · by_cases hz : 0 < m ∧ c = 0
                · have Hres := hid (show rowGo most last (bs.drop at') 0 0 = (0, 0, 3) by rw [Ha.out, if_neg hr, if_neg hc8, if_pos hz])
                  obtain ⟨hz1, hz2⟩ := hz
                  clear hr
                  go_wp2
                  go_ret3
                  refine ⟨?_, Hb.out _⟩
                  rw [HZ.out]
                  unfold rrowZ
                  rw [Hres.out]
                  rfl
                · have Hres := hid (show rowGo most last (bs.drop at') 0 0 = (y + c % 128 * q, (m : Int) + 1, 0) by rw [Ha.out, if_neg hr, if_neg hc8, if_neg hz])
                  clear hr
                  by_cases hj0 : 0 < m
                  · have hz2 : ¬ c = 0 := by omega
                    clear hz
                    go_wp2
                    go_quiet (fail)
                    go_wp2
                    go_ret3
                    refine ⟨?_, (Hb.out _).trans (below_drewN' _ _ _)⟩
                    rw [HZ.out]
                    unfold rrowZ
                    rw [Hres.out]
                    simp [tup3i, Int.add_assoc]
                  · clear hz
                    go_wp2
                    go_quiet (fail)
                    go_wp2
                    go_ret3
                    refine ⟨?_, (Hb.out _).trans (below_drewN' _ _ _)⟩
                    rw [HZ.out]
                    unfold rrowZ
                    rw [Hres.out]
                    simp [tup3i, Int.add_assoc]
    · have Hres := hid (show rowGo most last (bs.drop at') 0 0 = (0, 0, 2) by rw [← hgo.out, List.drop_eq_nil_of_le (by omega)]; rfl)
      have hge : (bs.length : Int) ≤ (at' : Int) + (j : Int) := by omega
      clear hgo
      go_wp2
      go_ret3
      refine ⟨?_, Hb.out _⟩
      rw [HZ.out]
      unfold rrowZ
      rw [Hres.out]
      rfl

end Go.Proofs.YtdnlfacfleemeaaGreat
