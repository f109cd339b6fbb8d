import Derived.Test.YtiammlngbejhkaaK04
import Derived.Test.YtiammlngbejhkaaK06
import Derived.Test.YtiammlngbejhkaaK02
namespace Go.Proofs.Ytiammlngbejhkaa
open Go.RowKit Go.Lib

/-- What Decode makes of bytes: the value, the error. -/
def decZ (bs : List Int) : (Int × Int × List Int) × Int :=
  if (takeZ 0 1 bs 0 0).1.1 = 0 then ((0, 0, []), endZ bs.length (takeZ 0 1 bs 0 0).2.1 (takeZ 0 1 bs 0 0).2.2)
  else if (takeZ 0 1 bs 0 0).1.1 = 1 then ((1, unfoldZ (takeZ 2 0 bs (takeZ 0 1 bs 0 0).2.1 (takeZ 0 1 bs 0 0).2.2).1.1, []), endZ bs.length (takeZ 2 0 bs (takeZ 0 1 bs 0 0).2.1 (takeZ 0 1 bs 0 0).2.2).2.1 (takeZ 2 0 bs (takeZ 0 1 bs 0 0).2.1 (takeZ 0 1 bs 0 0).2.2).2.2)
  else if (takeZ 0 1 bs 0 0).1.1 = 2 then ((2, 0, (takeZ 3 256 bs (takeZ 0 1 bs 0 0).2.1 (takeZ 0 1 bs 0 0).2.2).1.2), endZ bs.length (takeZ 3 256 bs (takeZ 0 1 bs 0 0).2.1 (takeZ 0 1 bs 0 0).2.2).2.1 (takeZ 3 256 bs (takeZ 0 1 bs 0 0).2.1 (takeZ 0 1 bs 0 0).2.2).2.2)
  else ((0, 0, []), 3)

/-- The same as what Decode answers. -/
def decV (d : (Int × Int × List Int) × Int) : Value := if d.2 = 0 then .tuple #[vl d.1.1 d.1.2.1 (mkStr d.1.2.2), .int .i64 0] else .tuple #[vl 0 0 emp, .int .i64 d.2]

theorem mkStr_nil : mkStr [] = emp := rfl

theorem Rd.kept {w w' : World} {p : Nat} {g : Option Nat} {bs : List Int} {at' : Nat} {e : Int} {S : Nat → Prop} (h : Rd w p g bs at' e) (hk : Kept S w w') (hp : ¬ S p) (hg : ∀ k, g = some k → ¬ S k) : Rd w' p g bs at' e := by
  obtain ⟨v, h1, rfl, h3, h4⟩ := h
  exact ⟨v, (hk.block p (lt_of h1) hp).trans h1, rfl, h3.kept hk hg, h4⟩

/-- Within Decode: the answer's block, the value's block, the Reader. -/
structure Dst (w w' : World) (p q : Nat) (g : Option Nat) (bs : List Int) (a b c : Value) (at' : Nat) (e : Int) : Prop where
  hr : w'.heap[w.heap.size]? = some (vo 0 0 emp)
  hv : w'.heap[q]? = some (.cells #[a, b, c] 23 (0, 0))
  rd : Rd w' p g bs at' e
  hb : Below w.heap.size w w'
  hp : w.heap.size < p
  hq : w.heap.size < q
  hn : q ≠ p
  hg : g ≠ some q

theorem Dst.step {w w' w2 : World} {p q : Nat} {g : Option Nat} {bs : List Int} {a b c : Value} {at' at2 : Nat} {e e2 : Int} (h : Dst w w' p q g bs a b c at' e) (hs : RdStep p g w' w2 bs at2 e2) : Dst w w2 p q g bs a b c at2 e2 := by
  obtain ⟨h1, hk⟩ := hs
  refine ⟨(hk.block _ (lt_of h.hr) (by have := h.hp; omega)).trans h.hr, (hk.block _ (lt_of h.hv) h.hn).trans h.hv, h1, h.hb.trans (hk.below h.hb.size ?_), h.hp, h.hq, h.hn, h.hg⟩
  intro k hk2 e
  have := h.hp
  omega

theorem Dst.set1 {w w' : World} {p q : Nat} {g : Option Nat} {bs : List Int} {a b c : Value} {at' : Nat} {e : Int} (h : Dst w w' p q g bs a b c at' e) (x : Value) : Dst w (w'.setCell ⟨q, 1, none⟩ x) p q g bs a x c at' e := by
  have hk : Kept (fun k => k = q) w' (w'.setCell ⟨q, 1, none⟩ x) := Kept.setCell (p := ⟨q, 1, none⟩) (Kept.refl (fun k => k = q) w') (fun _ => rfl) _
  refine ⟨(hk.block _ (lt_of h.hr) (by have := h.hq; omega)).trans h.hr, heap3_set1 h.hv, h.rd.kept hk (fun e => h.hn e.symm) (fun k hk e => h.hg (by rw [hk, e])), h.hb.trans (hk.below h.hb.size ?_), h.hp, h.hq, h.hn, h.hg⟩
  intro k hk2 e
  have := h.hq
  omega

theorem Dst.set2 {w w' : World} {p q : Nat} {g : Option Nat} {bs : List Int} {a b c : Value} {at' : Nat} {e : Int} (h : Dst w w' p q g bs a b c at' e) (x : Value) : Dst w (w'.setCell ⟨q, 2, none⟩ x) p q g bs a b x at' e := by
  have hk : Kept (fun k => k = q) w' (w'.setCell ⟨q, 2, none⟩ x) := Kept.setCell (p := ⟨q, 2, none⟩) (Kept.refl (fun k => k = q) w') (fun _ => rfl) _
  refine ⟨(hk.block _ (lt_of h.hr) (by have := h.hq; omega)).trans h.hr, heap3_set2 h.hv, h.rd.kept hk (fun e => h.hn e.symm) (fun k hk e => h.hg (by rw [hk, e])), h.hb.trans (hk.below h.hb.size ?_), h.hp, h.hq, h.hn, h.hg⟩
  intro k hk2 e
  have := h.hq
  omega

theorem Dst.drewN {w w' : World} {p q : Nat} {g : Option Nat} {bs : List Int} {a b c : Value} {at' : Nat} {e : Int} (h : Dst w w' p q g bs a b c at' e) (m : Nat) : Dst w (w'.drewN m) p q g bs a b c at' e :=
  ⟨h.hr, h.hv, h.rd.drewN m, ⟨h.hb.os, h.hb.tape, h.hb.output, h.hb.size, h.hb.block⟩, h.hp, h.hq, h.hn, h.hg⟩

/-- Behind the Byte, the value's block laid. -/
theorem Dst.mk' {w w1 w2 : World} {p : Nat} {bs : List Int} {at' : Nat} {e : Int} (hp : (w.alloc (vo 0 0 emp)).heap.size < p) (_hr : Rd w1 p (some (w.alloc (vo 0 0 emp)).heap.size) bs 0 0) (hb : Below (w.alloc (vo 0 0 emp)).heap.size (w.alloc (vo 0 0 emp)) w1) (hs : RdStep p (some (w.alloc (vo 0 0 emp)).heap.size) w1 w2 bs at' e) (a b c : Value) :
    Dst w (w2.alloc (.cells #[a, b, c] 23)) p w2.heap.size (some (w.alloc (vo 0 0 emp)).heap.size) bs a b c at' e := by
  obtain ⟨h1, hk⟩ := hs
  have hp' : w.heap.size + 1 < p := by simpa using hp
  have hpl : p < w2.heap.size := by
    obtain ⟨v, hv, _⟩ := h1
    exact lt_of hv
  have r1 := blk_of hb (heap_alloc_new w (vo 0 0 emp)) (by simp)
  have r2 : w2.heap[w.heap.size]? = some (vo 0 0 emp) := (hk.block _ (lt_of r1) (by omega)).trans r1
  have hB2 : Below w.heap.size w w2 := by
    refine (below_on (below1 w _) hb).trans (hk.below (below_on (below1 w _) hb).size ?_)
    intro k hk2 e
    omega
  have hal : Below w2.heap.size w2 (w2.alloc (.cells #[a, b, c] 23)) := below1 w2 _
  refine ⟨blk_of hal r2 (lt_of r2), heap_alloc_new w2 _, h1.kept (Kept.ofBelow hal) (fun h => h) (fun _ _ h => h), hB2.alloc hB2.size _, by omega, by omega, by omega, ?_⟩
  simp
  omega

set_option maxRecDepth 100000 in
set_option maxHeartbeats 1600000 in
theorem decode_int (v : Value) (bs : List Int) (w : World) (h : Sl w v bs) (ho : Oct bs) (hl : bs.length ≤ 1000000000) (a1 : Nat) (e1 : Int) (xx : List Int) (hk : takeZ 0 1 bs 0 0 = ((1, xx), a1, e1)) (u : Int) (x2 : List Int) (a2 : Nat) (e2 : Int) (hk2 : takeZ 2 0 bs a1 e1 = ((u, x2), a2, e2)) (en : Int) (hen : endZ bs.length a2 e2 = en) (res : Value) (hz : res = if en = 0 then .tuple #[vl 1 (unfoldZ u) emp, .int .i64 0] else .tuple #[vl 0 0 emp, .int .i64 en]) :
    Calls Try.prog 31 #[v] w fun e w' => e = .returned res ∧ Below w.heap.size w w' := by
  have HS := hid h
  have HO := hid ho
  have HK := hid hk
  have HK2 := hid hk2
  have HE := hid hen
  have HZ := hid hz
  clear h ho hk hen hz hk2
  by_cases h0 : en = 0
  · subst h0
    go_enter Try.func31, Try.ntmps31
    go_wp2_with (first
      | (go_at_call 58
         refine (read_any v bs _ (HS.out.below (below1 w _)) HO.out hl).mono ?_
         rintro e w1 ⟨p, rfl, hp1, hr1, hb1⟩
         have H1 := hid (And.intro hp1 (And.intro hr1 hb1))
         clear hp1 hr1 hb1)
      | (go_at_call 59
         refine (rbyte_any p _ bs 0 0 w1 H1.out.2.1).mono ?_
         rintro e w2 ⟨hs2, rfl⟩
         rw [HK.out] at hs2 ⊢
         dsimp only
         have H2 := hid (fun a b c => Dst.mk' H1.out.1 H1.out.2.1 H1.out.2.2 hs2 a b c)
         clear hs2)
      | (go_at_call 60
         refine (rint_any p _ bs a1 e1 _ (H2.out (.int .i64 1) (.int .i64 0) (.string emp)).rd).mono ?_
         rintro e w3 ⟨hs3, rfl⟩
         rw [HK2.out] at hs3 ⊢
         dsimp only
         have H3 := hid ((H2.out (.int .i64 1) (.int .i64 0) (.string emp)).step hs3)
         obtain ⟨c0, c1, c2, ff⟩ := vfacts H3.out.hv
         clear hs3)
      | (go_at_call 62
         refine (end_any p _ bs a2 e2 _ (H3.out.set1 (.int .i64 (unfoldZ u))).rd).mono ?_
         rintro e w4 ⟨⟨nq, e4⟩, rfl⟩
         rw [HE.out]
         have H4 := hid ((H3.out.set1 (.int .i64 (unfoldZ u))).drewN nq)
         rw [← e4] at H4
         obtain ⟨c0, c1, c2, ff⟩ := vfacts H4.out.hv
         obtain ⟨d0, d1, d2, fg⟩ := vfacts H4.out.hr
         clear e4))
    refine bodyPost_ret (ret_agg2 Try.results31 rfl (set3 H4.out.hr _ _ _)) rfl ?_
    exact ⟨by rw [HZ.out]; rfl, Below.set3 H4.out.hb (Nat.le_refl _) _ _ _⟩
  · have hb0 : (en == 0) = false := by simpa using h0
    go_enter Try.func31, Try.ntmps31
    go_wp2_with (first
      | (go_at_call 58
         refine (read_any v bs _ (HS.out.below (below1 w _)) HO.out hl).mono ?_
         rintro e w1 ⟨p, rfl, hp1, hr1, hb1⟩
         have H1 := hid (And.intro hp1 (And.intro hr1 hb1))
         clear hp1 hr1 hb1)
      | (go_at_call 59
         refine (rbyte_any p _ bs 0 0 w1 H1.out.2.1).mono ?_
         rintro e w2 ⟨hs2, rfl⟩
         rw [HK.out] at hs2 ⊢
         dsimp only
         have H2 := hid (fun a b c => Dst.mk' H1.out.1 H1.out.2.1 H1.out.2.2 hs2 a b c)
         clear hs2)
      | (go_at_call 60
         refine (rint_any p _ bs a1 e1 _ (H2.out (.int .i64 1) (.int .i64 0) (.string emp)).rd).mono ?_
         rintro e w3 ⟨hs3, rfl⟩
         rw [HK2.out] at hs3 ⊢
         dsimp only
         have H3 := hid ((H2.out (.int .i64 1) (.int .i64 0) (.string emp)).step hs3)
         obtain ⟨c0, c1, c2, ff⟩ := vfacts H3.out.hv
         clear hs3)
      | (go_at_call 62
         refine (end_any p _ bs a2 e2 _ (H3.out.set1 (.int .i64 (unfoldZ u))).rd).mono ?_
         rintro e w4 ⟨⟨nq, e4⟩, rfl⟩
         rw [HE.out]
         have H4 := hid ((H3.out.set1 (.int .i64 (unfoldZ u))).drewN nq)
         rw [← e4] at H4
         obtain ⟨c0, c1, c2, ff⟩ := vfacts H4.out.hv
         obtain ⟨d0, d1, d2, fg⟩ := vfacts H4.out.hr
         clear e4))
    refine bodyPost_ret (ret_agg2 Try.results31 rfl (set3 H4.out.hr _ _ _)) rfl ?_
    exact ⟨by rw [HZ.out]; rw [if_neg h0]; rfl, Below.set3 H4.out.hb (Nat.le_refl _) _ _ _⟩

set_option maxRecDepth 100000 in
set_option maxHeartbeats 1600000 in
theorem decode_text (v : Value) (bs : List Int) (w : World) (h : Sl w v bs) (ho : Oct bs) (hl : bs.length ≤ 1000000000) (a1 : Nat) (e1 : Int) (xx : List Int) (hk : takeZ 0 1 bs 0 0 = ((2, xx), a1, e1)) (u : Int) (x2 : List Int) (a2 : Nat) (e2 : Int) (hk2 : takeZ 3 256 bs a1 e1 = ((u, x2), a2, e2)) (en : Int) (hen : endZ bs.length a2 e2 = en) (res : Value) (hz : res = if en = 0 then .tuple #[vl 2 0 (mkStr x2), .int .i64 0] else .tuple #[vl 0 0 emp, .int .i64 en]) :
    Calls Try.prog 31 #[v] w fun e w' => e = .returned res ∧ Below w.heap.size w w' := by
  have HS := hid h
  have HO := hid ho
  have HK := hid hk
  have HK2 := hid hk2
  have HE := hid hen
  have HZ := hid hz
  clear h ho hk hen hz hk2
  by_cases h0 : en = 0
  · subst h0
    go_enter Try.func31, Try.ntmps31
    go_wp2_with (first
      | (go_at_call 58
         refine (read_any v bs _ (HS.out.below (below1 w _)) HO.out hl).mono ?_
         rintro e w1 ⟨p, rfl, hp1, hr1, hb1⟩
         have H1 := hid (And.intro hp1 (And.intro hr1 hb1))
         clear hp1 hr1 hb1)
      | (go_at_call 59
         refine (rbyte_any p _ bs 0 0 w1 H1.out.2.1).mono ?_
         rintro e w2 ⟨hs2, rfl⟩
         rw [HK.out] at hs2 ⊢
         dsimp only
         have H2 := hid (fun a b c => Dst.mk' H1.out.1 H1.out.2.1 H1.out.2.2 hs2 a b c)
         clear hs2)
      | (go_at_call 61
         refine (rtext_any p _ bs a1 e1 256 _ (H2.out (.int .i64 2) (.int .i64 0) (.string emp)).rd (by omega) (by omega)).mono ?_
         rintro e w3 ⟨hs3, rfl⟩
         rw [HK2.out] at hs3 ⊢
         dsimp only
         have H3 := hid ((H2.out (.int .i64 2) (.int .i64 0) (.string emp)).step hs3)
         obtain ⟨c0, c1, c2, ff⟩ := vfacts H3.out.hv
         clear hs3)
      | (go_at_call 62
         refine (end_any p _ bs a2 e2 _ (H3.out.set2 (.string (mkStr x2))).rd).mono ?_
         rintro e w4 ⟨⟨nq, e4⟩, rfl⟩
         rw [HE.out]
         have H4 := hid ((H3.out.set2 (.string (mkStr x2))).drewN nq)
         rw [← e4] at H4
         obtain ⟨c0, c1, c2, ff⟩ := vfacts H4.out.hv
         obtain ⟨d0, d1, d2, fg⟩ := vfacts H4.out.hr
         clear e4))
    refine bodyPost_ret (ret_agg2 Try.results31 rfl (set3 H4.out.hr _ _ _)) rfl ?_
    exact ⟨by rw [HZ.out]; rfl, Below.set3 H4.out.hb (Nat.le_refl _) _ _ _⟩
  · have hb0 : (en == 0) = false := by simpa using h0
    go_enter Try.func31, Try.ntmps31
    go_wp2_with (first
      | (go_at_call 58
         refine (read_any v bs _ (HS.out.below (below1 w _)) HO.out hl).mono ?_
         rintro e w1 ⟨p, rfl, hp1, hr1, hb1⟩
         have H1 := hid (And.intro hp1 (And.intro hr1 hb1))
         clear hp1 hr1 hb1)
      | (go_at_call 59
         refine (rbyte_any p _ bs 0 0 w1 H1.out.2.1).mono ?_
         rintro e w2 ⟨hs2, rfl⟩
         rw [HK.out] at hs2 ⊢
         dsimp only
         have H2 := hid (fun a b c => Dst.mk' H1.out.1 H1.out.2.1 H1.out.2.2 hs2 a b c)
         clear hs2)
      | (go_at_call 61
         refine (rtext_any p _ bs a1 e1 256 _ (H2.out (.int .i64 2) (.int .i64 0) (.string emp)).rd (by omega) (by omega)).mono ?_
         rintro e w3 ⟨hs3, rfl⟩
         rw [HK2.out] at hs3 ⊢
         dsimp only
         have H3 := hid ((H2.out (.int .i64 2) (.int .i64 0) (.string emp)).step hs3)
         obtain ⟨c0, c1, c2, ff⟩ := vfacts H3.out.hv
         clear hs3)
      | (go_at_call 62
         refine (end_any p _ bs a2 e2 _ (H3.out.set2 (.string (mkStr x2))).rd).mono ?_
         rintro e w4 ⟨⟨nq, e4⟩, rfl⟩
         rw [HE.out]
         have H4 := hid ((H3.out.set2 (.string (mkStr x2))).drewN nq)
         rw [← e4] at H4
         obtain ⟨c0, c1, c2, ff⟩ := vfacts H4.out.hv
         obtain ⟨d0, d1, d2, fg⟩ := vfacts H4.out.hr
         clear e4))
    refine bodyPost_ret (ret_agg2 Try.results31 rfl (set3 H4.out.hr _ _ _)) rfl ?_
    exact ⟨by rw [HZ.out]; rw [if_neg h0]; rfl, Below.set3 H4.out.hb (Nat.le_refl _) _ _ _⟩

set_option maxRecDepth 100000 in
set_option maxHeartbeats 1600000 in
theorem decode_none (v : Value) (bs : List Int) (w : World) (h : Sl w v bs) (ho : Oct bs) (hl : bs.length ≤ 1000000000) (a1 : Nat) (e1 : Int) (xx : List Int) (hk : takeZ 0 1 bs 0 0 = ((0, xx), a1, e1)) (en : Int) (hen : endZ bs.length a1 e1 = en) (res : Value) (hz : res = if en = 0 then .tuple #[vl 0 0 emp, .int .i64 0] else .tuple #[vl 0 0 emp, .int .i64 en]) :
    Calls Try.prog 31 #[v] w fun e w' => e = .returned res ∧ Below w.heap.size w w' := by
  have HS := hid h
  have HO := hid ho
  have HK := hid hk
  have HE := hid hen
  have HZ := hid hz
  clear h ho hk hen hz
  by_cases h0 : en = 0
  · subst h0
    go_enter Try.func31, Try.ntmps31
    go_wp2_with (first
      | (go_at_call 58
         refine (read_any v bs _ (HS.out.below (below1 w _)) HO.out hl).mono ?_
         rintro e w1 ⟨p, rfl, hp1, hr1, hb1⟩
         have H1 := hid (And.intro hp1 (And.intro hr1 hb1))
         clear hp1 hr1 hb1)
      | (go_at_call 59
         refine (rbyte_any p _ bs 0 0 w1 H1.out.2.1).mono ?_
         rintro e w2 ⟨hs2, rfl⟩
         rw [HK.out] at hs2 ⊢
         dsimp only
         have H2 := hid (fun a b c => Dst.mk' H1.out.1 H1.out.2.1 H1.out.2.2 hs2 a b c)
         clear hs2)
      | (go_at_call 62
         refine (end_any p _ bs a1 e1 _ (H2.out (.int .i64 0) (.int .i64 0) (.string emp)).rd).mono ?_
         rintro e w4 ⟨⟨nq, e4⟩, rfl⟩
         rw [HE.out]
         have H4 := hid ((H2.out (.int .i64 0) (.int .i64 0) (.string emp)).drewN nq)
         rw [← e4] at H4
         obtain ⟨c0, c1, c2, ff⟩ := vfacts H4.out.hv
         obtain ⟨d0, d1, d2, fg⟩ := vfacts H4.out.hr
         clear e4))
    refine bodyPost_ret (ret_agg2 Try.results31 rfl (set3 H4.out.hr _ _ _)) rfl ?_
    exact ⟨by rw [HZ.out]; rfl, Below.set3 H4.out.hb (Nat.le_refl _) _ _ _⟩
  · have hb0 : (en == 0) = false := by simpa using h0
    go_enter Try.func31, Try.ntmps31
    go_wp2_with (first
      | (go_at_call 58
         refine (read_any v bs _ (HS.out.below (below1 w _)) HO.out hl).mono ?_
         rintro e w1 ⟨p, rfl, hp1, hr1, hb1⟩
         have H1 := hid (And.intro hp1 (And.intro hr1 hb1))
         clear hp1 hr1 hb1)
      | (go_at_call 59
         refine (rbyte_any p _ bs 0 0 w1 H1.out.2.1).mono ?_
         rintro e w2 ⟨hs2, rfl⟩
         rw [HK.out] at hs2 ⊢
         dsimp only
         have H2 := hid (fun a b c => Dst.mk' H1.out.1 H1.out.2.1 H1.out.2.2 hs2 a b c)
         clear hs2)
      | (go_at_call 62
         refine (end_any p _ bs a1 e1 _ (H2.out (.int .i64 0) (.int .i64 0) (.string emp)).rd).mono ?_
         rintro e w4 ⟨⟨nq, e4⟩, rfl⟩
         rw [HE.out]
         have H4 := hid ((H2.out (.int .i64 0) (.int .i64 0) (.string emp)).drewN nq)
         rw [← e4] at H4
         obtain ⟨c0, c1, c2, ff⟩ := vfacts H4.out.hv
         obtain ⟨d0, d1, d2, fg⟩ := vfacts H4.out.hr
         clear e4))
    refine bodyPost_ret (ret_agg2 Try.results31 rfl (set3 H4.out.hr _ _ _)) rfl ?_
    exact ⟨by rw [HZ.out]; rw [if_neg h0]; rfl, Below.set3 H4.out.hb (Nat.le_refl _) _ _ _⟩

theorem below_unalloc {w w2 : World} {o : Obj} (h : Below w.heap.size w (w2.alloc o)) (hs : w.heap.size ≤ w2.heap.size) : Below w.heap.size w w2 :=
  ⟨h.os, h.tape, h.output, hs, fun k hk => (Below.heap_alloc _ _ _ (by omega)).symm.trans (h.block k hk)⟩

set_option maxRecDepth 100000 in
set_option maxHeartbeats 1600000 in
theorem decode_else (v : Value) (bs : List Int) (w : World) (h : Sl w v bs) (ho : Oct bs) (hl : bs.length ≤ 1000000000) (kk : Int) (a1 : Nat) (e1 : Int) (xx : List Int) (hk : takeZ 0 1 bs 0 0 = ((kk, xx), a1, e1)) (k0 : 3 ≤ kk) (k1 : kk < 256) :
    Calls Try.prog 31 #[v] w fun e w' => e = .returned (.tuple #[vl 0 0 emp, .int .i64 3]) ∧ Below w.heap.size w w' := by
  have HS := hid h
  have HO := hid ho
  have HK := hid hk
  clear h ho hk
  have b0 : (kk == 0) = false := by simp; omega
  have b1 : (kk == 1) = false := by simp; omega
  have b2 : (kk == 2) = false := by simp; omega
  go_enter Try.func31, Try.ntmps31
  go_wp2_with (first
      | (go_at_call 58
         refine (read_any v bs _ (HS.out.below (below1 w _)) HO.out hl).mono ?_
         rintro e w1 ⟨p, rfl, hp1, hr1, hb1⟩
         have H1 := hid (And.intro hp1 (And.intro hr1 hb1))
         clear hp1 hr1 hb1)
      | (go_at_call 59
         refine (rbyte_any p _ bs 0 0 w1 H1.out.2.1).mono ?_
         rintro e w2 ⟨hs2, rfl⟩
         rw [HK.out] at hs2 ⊢
         dsimp only
         have H2 := hid (Dst.mk' H1.out.1 H1.out.2.1 H1.out.2.2 hs2 (.int .i64 kk) (.int .i64 0) (.string emp))
         have ql := H2.out.hq
         have R2 := hid ((Below.heap_alloc _ _ _ ql).symm.trans H2.out.hr)
         have HB2 := hid (below_unalloc H2.out.hb (Nat.le_of_lt ql))
         obtain ⟨d0, d1, d2, fg⟩ := vfacts ((Below.heap_alloc _ _ _ ql).symm.trans H2.out.hr)
         clear hs2))
  refine bodyPost_ret (ret_agg2 Try.results31 rfl ((Below.heap_alloc _ _ _ (by simpa [World.setCell] using ql)).trans (set3 R2.out _ _ _))) rfl ?_
  exact ⟨rfl, (Below.set3 HB2.out (Nat.le_refl _) _ _ _).alloc (by simpa [World.setCell] using Nat.le_of_lt ql) _⟩

theorem decode_any (v : Value) (bs : List Int) (w : World) (h : Sl w v bs) (ho : Oct bs) (hl : bs.length ≤ 1000000000) :
    Calls Try.prog 31 #[v] w fun e w' => e = .returned (decV (decZ bs)) ∧ Below w.heap.size w w' := by
  have hb := takeZ_bd 0 1 bs 0 0 ho
  obtain ⟨⟨⟨kk, xx⟩, a1, e1⟩, ht⟩ : ∃ t, takeZ 0 1 bs 0 0 = t := ⟨_, rfl⟩
  rw [ht] at hb
  have h0 : 0 ≤ kk := hb.1
  have h1 : kk < 256 := hb.2.2.2 rfl rfl
  by_cases k0 : kk = 0
  · subst k0
    refine decode_none v bs w h ho hl a1 e1 xx ht _ rfl _ ?_
    simp [decV, decZ, ht, mkStr_nil]
  · by_cases k1 : kk = 1
    · subst k1
      obtain ⟨⟨⟨u, x2⟩, a2, e2⟩, ht2⟩ : ∃ t, takeZ 2 0 bs a1 e1 = t := ⟨_, rfl⟩
      refine decode_int v bs w h ho hl a1 e1 xx ht u x2 a2 e2 ht2 _ rfl _ ?_
      simp [decV, decZ, ht, ht2, mkStr_nil]
    · by_cases k2 : kk = 2
      · subst k2
        obtain ⟨⟨⟨u, x2⟩, a2, e2⟩, ht2⟩ : ∃ t, takeZ 3 256 bs a1 e1 = t := ⟨_, rfl⟩
        refine decode_text v bs w h ho hl a1 e1 xx ht u x2 a2 e2 ht2 _ rfl _ ?_
        simp [decV, decZ, ht, ht2]
      · have hd : decV (decZ bs) = .tuple #[vl 0 0 emp, .int .i64 3] := by simp [decV, decZ, ht, k0, k1, k2]
        rw [hd]
        exact decode_else v bs w h ho hl kk a1 e1 xx ht (by omega) h1

end Go.Proofs.Ytiammlngbejhkaa

namespace Go.Proofs.Ytiammlngbejhkaa
open Go.RowKit

/-- A value's bytes. -/
def encB (k i : Int) (s : ByteArray) : List Int := if k = 1 then [1] ++ rowF 10 (foldZ i) else if k = 2 then [2] ++ rowF 10 (strBs s).length ++ strBs s else [0]

/-- A new Writer. -/
theorem wr_new (w : World) (B : Nat) : Wr B (w.alloc (.cells #[.slice none 0 0, .int .i64 0] 79)) w.heap.size none [] 0 :=
  ⟨.slice none 0 0, heap_alloc_new w _, rfl, rfl, .inl ⟨rfl, rfl⟩⟩

theorem fix1 (k : Int) (h0 : 0 ≤ k) (h1 : k < 256) (bs : List Int) : wfixZ (bs, 0) k 1 = (bs ++ [k], 0) := by
  unfold wfixZ
  rw [if_pos rfl, if_neg (by omega)]
  simp [fixedB, List.range_succ]
  omega

/-- What Encode answers where a value is none. -/
def EncNo (r : Int) (w : World) (e : Ending) (w' : World) : Prop := e = .returned (.tuple #[.slice none 0 0, .int .i64 r]) ∧ Below w.heap.size w w'

set_option maxRecDepth 100000 in
set_option maxHeartbeats 800000 in
theorem encode_no (k i : Int) (s : ByteArray) (r : Int) (hr : chk k i s = r) (h0 : r ≠ 0) (w : World) : Calls Try.prog 28 #[vl k i s] w (EncNo r w) := by
  have hB0 := hid (below1 w (vo k i s))
  have hc := check_any k i s
  rw [hr] at hc
  have HC := hid hc
  have hb : (r == 0) = false := by simpa using h0
  clear hc hr
  unfold EncNo
  go_enter Try.func28, Try.ntmps28
  go_wp2_with (
    go_at_call 10
    refine (HC.out _).mono ?_
    rintro e w1 ⟨rfl, hb1⟩
    have H1 := hid (below_on hB0.out hb1)
    clear hb1)
  go_ret2
  exact ⟨rfl, H1.out⟩

/-- What Encode answers of a value. -/
def EncOk (bs : List Int) (w : World) (e : Ending) (w' : World) : Prop := ∃ g, e = .returned (.tuple #[.slice (some ⟨g, 0, none⟩) bs.length bs.length, .int .i64 0]) ∧ Own w' g bs ∧ w.heap.size ≤ g ∧ Below w.heap.size w w'

/-- Behind the first byte. -/
theorem enc_step {w w1 w2 : World} {a b c : Value} {bs : List Int} {e : Int} (h1 : w1.heap[w.heap.size]? = some (.cells #[a, b, c] 23 (0, 0))) (h2 : Below w.heap.size w w1)
    (h : WrStep w.heap.size w1.heap.size none (w1.alloc (.cells #[.slice none 0 0, .int .i64 0] 79)) w2 bs e) :
    w2.heap[w.heap.size]? = some (.cells #[a, b, c] 23 (0, 0)) ∧ ∃ g', Wr w.heap.size w2 w1.heap.size g' bs e ∧ Below w.heap.size w w2 := by
  obtain ⟨g', hW, _, hK⟩ := h
  have hlt := lt_of h1
  refine ⟨?_, g', hW, ?_⟩
  · rw [hK.block _ (by simp; omega) (by rintro (h | h); omega; cases h), Below.heap_alloc _ _ _ hlt]
    exact h1
  · refine (h2.alloc h2.size _).trans (hK.below (by simp; have := h2.size; omega) ?_)
    rintro k hk (h | h)
    · have := h2.size; omega
    · cases h

/-- Behind a further one. -/
theorem enc_step2 {w w3 w4 : World} {p : Nat} {g : Option Nat} {bs bs2 : List Int} {e e2 : Int} (hp : w.heap.size ≤ p) (h2 : Below w.heap.size w w3) (hW : Wr w.heap.size w3 p g bs e)
    (h : WrStep w.heap.size p g w3 w4 bs2 e2) : ∃ g', Wr w.heap.size w4 p g' bs2 e2 ∧ Below w.heap.size w w4 := by
  obtain ⟨g', hW2, _, hK⟩ := h
  refine ⟨g', hW2, h2.trans (hK.below h2.size ?_)⟩
  rintro k hk (h | h)
  · omega
  · have := hW.glt k h; omega

set_option maxRecDepth 100000 in
set_option maxHeartbeats 1600000 in
theorem encode_int (i : Int) (h0 : -9223372036854775808 ≤ i) (h1 : i < 9223372036854775808) (w : World) : Calls Try.prog 28 #[vl 1 i emp] w (EncOk (encB 1 i emp) w) := by
  have hB0 := hid (below1 w (vo 1 i emp))
  have hR0 := hid (heap_alloc_new w (vo 1 i emp))
  have hc := check_any 1 i emp
  rw [show chk 1 i emp = 0 by simp [chk]] at hc
  have HC := hid hc
  have HE := hid (show wintZ ([1], 0) i = (encB 1 i emp, 0) by simp [wintZ, encB])
  have HL := hid (show (encB 1 i emp).length ≤ 1000000 by simp [encB]; have := rowF_le 10 (foldZ i); omega)
  clear hc
  unfold EncOk
  have q1 := ta60
  have q2 := ta6260
  have q3 := ta62
  have q4 := tan60
  have q5 := tan62
  go_enter Try.func28, Try.ntmps28
  go_wp2_with (first
    | (go_at_call 10
       refine (HC.out _).mono ?_
       rintro e w1 ⟨rfl, hb1⟩
       have g1 := blk_of hb1 hR0.out (by simp)
       obtain ⟨c0, c1, c2, -⟩ := vfacts g1
       have n0 : w.heap.size < w1.heap.size := lt_of g1
       have H1 := hid (And.intro g1 (below_on hB0.out hb1))
       clear hb1 g1)
    | (go_at_call 51
       refine (wbyte_any w.heap.size w1.heap.size none [] 0 _ 1 (wr_new w1 _) (by simp; exact Nat.le_trans H1.out.2.size (Nat.le_succ _)) (by omega) (by omega) (by simp)).mono ?_
       rintro e w2 ⟨rfl, hs2⟩
       rw [fix1 1 (by omega) (by omega)] at hs2
       have H2 := hid (enc_step H1.out.1 H1.out.2 hs2)
       obtain ⟨c0, c1, c2, -⟩ := vfacts H2.out.1
       clear hs2)
    | (go_at_call 37
       refine (thingOf_any 1 i emp _).mono ?_
       rintro e w3 ⟨rfl, hb3⟩
       rw [thing1]
       obtain ⟨g', hW, hK⟩ := H2.out.2
       have H3 := hid (And.intro (hW.kept (Kept.ofBelow hb3) (fun h => h) (fun _ _ h => h)) (below_on hK hb3))
       clear hb3 hW hK)
    | (go_at_call 52
       refine (wint_any w.heap.size w1.heap.size g' [1] 0 _ i H3.out.1 H3.out.2.size h0 h1 (by simp)).mono ?_
       rintro e w4 ⟨rfl, hs4⟩
       have H4 := hid (enc_step2 H1.out.2.size H3.out.2 H3.out.1 hs4)
       clear hs4)
    | (go_at_call 54
       obtain ⟨g4, hW4, hB4⟩ := H4.out
       rw [HE.out] at hW4
       refine (wdata_any w.heap.size w1.heap.size g4 _ _ _ hW4 (by have := HL.out; simp only [] at *; omega)).mono ?_
       rintro e w5 ⟨rfl, ho5, hb5⟩
       have H5 := hid (And.intro ho5 (And.intro hB4.size (below_on hB4 hb5)))
       clear ho5 hb5))
  go_ret2
  exact ⟨_, rfl, H5.out.1, H5.out.2.1, H5.out.2.2⟩

set_option maxRecDepth 100000 in
set_option maxHeartbeats 1600000 in
theorem encode_text (s : ByteArray) (hs : s.size ≤ 256) (w : World) : Calls Try.prog 28 #[vl 2 0 s] w (EncOk (encB 2 0 s) w) := by
  have hB0 := hid (below1 w (vo 2 0 s))
  have hR0 := hid (heap_alloc_new w (vo 2 0 s))
  have hc := check_any 2 0 s
  rw [show chk 2 0 s = 0 by simp [chk]; omega] at hc
  have HC := hid hc
  have HE := hid (show wtextZ ([2], 0) (strBs s) = (encB 2 0 s, 0) by simp [wtextZ, encB])
  have HL := hid (show (encB 2 0 s).length ≤ 1000000 by simp [encB, strBs_len]; have := rowF_le 10 s.size; omega)
  clear hc
  unfold EncOk
  have q1 := ta60
  have q2 := ta6260
  have q3 := ta62
  have q4 := tan60
  have q5 := tan62
  go_enter Try.func28, Try.ntmps28
  go_wp2_with (first
    | (go_at_call 10
       refine (HC.out _).mono ?_
       rintro e w1 ⟨rfl, hb1⟩
       have g1 := blk_of hb1 hR0.out (by simp)
       obtain ⟨c0, c1, c2, -⟩ := vfacts g1
       have n0 : w.heap.size < w1.heap.size := lt_of g1
       have H1 := hid (And.intro g1 (below_on hB0.out hb1))
       clear hb1 g1)
    | (go_at_call 51
       refine (wbyte_any w.heap.size w1.heap.size none [] 0 _ 2 (wr_new w1 _) (by simp; exact Nat.le_trans H1.out.2.size (Nat.le_succ _)) (by omega) (by omega) (by simp)).mono ?_
       rintro e w2 ⟨rfl, hs2⟩
       rw [fix1 2 (by omega) (by omega)] at hs2
       have H2 := hid (enc_step H1.out.1 H1.out.2 hs2)
       obtain ⟨c0, c1, c2, -⟩ := vfacts H2.out.1
       clear hs2)
    | (go_at_call 37
       refine (thingOf_any 2 0 s _).mono ?_
       rintro e w3 ⟨rfl, hb3⟩
       rw [thing2]
       obtain ⟨g', hW, hK⟩ := H2.out.2
       have H3 := hid (And.intro (hW.kept (Kept.ofBelow hb3) (fun h => h) (fun _ _ h => h)) (below_on hK hb3))
       clear hb3 hW hK)
    | (go_at_call 53
       refine (wtext_any w.heap.size w1.heap.size g' [2] 0 _ s H3.out.1 H3.out.2.size (by omega) (by simp)).mono ?_
       rintro e w4 ⟨rfl, hs4⟩
       have H4 := hid (enc_step2 H1.out.2.size H3.out.2 H3.out.1 hs4)
       clear hs4)
    | (go_at_call 54
       obtain ⟨g4, hW4, hB4⟩ := H4.out
       rw [HE.out] at hW4
       refine (wdata_any w.heap.size w1.heap.size g4 _ _ _ hW4 (by have := HL.out; simp only [] at *; omega)).mono ?_
       rintro e w5 ⟨rfl, ho5, hb5⟩
       have H5 := hid (And.intro ho5 (And.intro hB4.size (below_on hB4 hb5)))
       clear ho5 hb5))
  go_ret2
  exact ⟨_, rfl, H5.out.1, H5.out.2.1, H5.out.2.2⟩

set_option maxRecDepth 100000 in
set_option maxHeartbeats 1600000 in
theorem encode_none (w : World) : Calls Try.prog 28 #[vl 0 0 emp] w (EncOk (encB 0 0 emp) w) := by
  have hB0 := hid (below1 w (vo 0 0 emp))
  have hR0 := hid (heap_alloc_new w (vo 0 0 emp))
  have hc := check_any 0 0 emp
  rw [show chk 0 0 emp = 0 by simp [chk]] at hc
  have HC := hid hc
  have HE := hid (show (([0], 0) : List Int × Int) = (encB 0 0 emp, 0) by simp [encB])
  have HL := hid (show (encB 0 0 emp).length ≤ 1000000 by simp [encB])
  clear hc
  unfold EncOk
  have q1 := ta60
  have q2 := ta6260
  have q3 := ta62
  have q4 := tan60
  have q5 := tan62
  go_enter Try.func28, Try.ntmps28
  go_wp2_with (first
    | (go_at_call 10
       refine (HC.out _).mono ?_
       rintro e w1 ⟨rfl, hb1⟩
       have g1 := blk_of hb1 hR0.out (by simp)
       obtain ⟨c0, c1, c2, -⟩ := vfacts g1
       have n0 : w.heap.size < w1.heap.size := lt_of g1
       have H1 := hid (And.intro g1 (below_on hB0.out hb1))
       clear hb1 g1)
    | (go_at_call 51
       refine (wbyte_any w.heap.size w1.heap.size none [] 0 _ 0 (wr_new w1 _) (by simp; exact Nat.le_trans H1.out.2.size (Nat.le_succ _)) (by omega) (by omega) (by simp)).mono ?_
       rintro e w2 ⟨rfl, hs2⟩
       rw [fix1 0 (by omega) (by omega)] at hs2
       have H2 := hid (enc_step H1.out.1 H1.out.2 hs2)
       obtain ⟨c0, c1, c2, -⟩ := vfacts H2.out.1
       clear hs2)
    | (go_at_call 37
       refine (thingOf_any 0 0 emp _).mono ?_
       rintro e w3 ⟨rfl, hb3⟩
       rw [thing0 0 emp (by omega) (by omega)]
       obtain ⟨g', hW, hK⟩ := H2.out.2
       have H3 := hid (And.intro (hW.kept (Kept.ofBelow hb3) (fun h => h) (fun _ _ h => h)) (below_on hK hb3))
       clear hb3 hW hK)
    | (go_at_call 54
       obtain ⟨hW4, hB4⟩ := H3.out
       have hW4 : Wr w.heap.size w3 w1.heap.size g' (([0], 0) : List Int × Int).1 (([0], 0) : List Int × Int).2 := hW4
       rw [HE.out] at hW4
       refine (wdata_any w.heap.size w1.heap.size g' _ _ _ hW4 (by have := HL.out; simp only [] at *; omega)).mono ?_
       rintro e w5 ⟨rfl, ho5, hb5⟩
       have H5 := hid (And.intro ho5 (And.intro hB4.size (below_on hB4 hb5)))
       clear ho5 hb5))
  go_ret2
  exact ⟨_, rfl, H5.out.1, H5.out.2.1, H5.out.2.2⟩

/-- What Encode answers. -/
theorem encode_any (k i : Int) (s : ByteArray) (h0 : -9223372036854775808 ≤ i) (h1 : i < 9223372036854775808) (w : World) :
    Calls Try.prog 28 #[vl k i s] w fun e w' => (chk k i s ≠ 0 ∧ EncNo (chk k i s) w e w') ∨ (chk k i s = 0 ∧ EncOk (encB k i s) w e w') := by
  by_cases hc : chk k i s = 0
  · refine Calls.mono (R := EncOk (encB k i s) w) ?_ (fun e w' h => .inr ⟨hc, h⟩)
    unfold chk at hc
    split at hc
    · rename_i hk
      subst hk
      split at hc
      · rename_i hs
        subst hs
        exact encode_int i h0 h1 w
      · omega
    · split at hc
      · rename_i hk
        subst hk
        split at hc
        · rename_i hi
          subst hi
          split at hc
          · omega
          · exact encode_text s (by omega) w
        · omega
      · split at hc
        · rename_i hk
          obtain ⟨rfl, rfl, rfl⟩ := hk
          exact encode_none w
        · omega
  · exact Calls.mono (encode_no k i s _ rfl hc w) (fun e w' h => .inl ⟨hc, h⟩)

end Go.Proofs.Ytiammlngbejhkaa
