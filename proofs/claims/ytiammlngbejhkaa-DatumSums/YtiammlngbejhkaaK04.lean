import Derived.Test.YtiammlngbejhkaaK02
import Derived.Test.YtiammlngbejhkaaK03
import Derived.Test.YtiammlngbejhkaaK01
import Derived.Laws.EntriesVeiled
namespace Go.Proofs.Ytiammlngbejhkaa
open Go.RowKit Go.Lib

/-- What Decode makes of bytes: the value, the error. -/
def decZ (bs : List Int) : (Int × Int × List Int) × Int :=
  if (takeZ 0 1 bs 0 0).1.1 = 0 then ((0, 0, []), endZ bs.length (takeZ 0 1 bs 0 0).2.1 (takeZ 0 1 bs 0 0).2.2)
  else if (takeZ 0 1 bs 0 0).1.1 = 1 then ((1, unfoldZ (takeZ 2 0 bs (takeZ 0 1 bs 0 0).2.1 (takeZ 0 1 bs 0 0).2.2).1.1, []), endZ bs.length (takeZ 2 0 bs (takeZ 0 1 bs 0 0).2.1 (takeZ 0 1 bs 0 0).2.2).2.1 (takeZ 2 0 bs (takeZ 0 1 bs 0 0).2.1 (takeZ 0 1 bs 0 0).2.2).2.2)
  else if (takeZ 0 1 bs 0 0).1.1 = 2 then ((2, 0, (takeZ 3 256 bs (takeZ 0 1 bs 0 0).2.1 (takeZ 0 1 bs 0 0).2.2).1.2), endZ bs.length (takeZ 3 256 bs (takeZ 0 1 bs 0 0).2.1 (takeZ 0 1 bs 0 0).2.2).2.1 (takeZ 3 256 bs (takeZ 0 1 bs 0 0).2.1 (takeZ 0 1 bs 0 0).2.2).2.2)
  else ((0, 0, []), 3)

/-- The same as what Decode answers. -/
def decV (d : (Int × Int × List Int) × Int) : Value := if d.2 = 0 then .tuple #[vl d.1.1 d.1.2.1 (mkStr d.1.2.2), .int .i64 0] else .tuple #[vl 0 0 emp, .int .i64 d.2]

theorem mkStr_nil : mkStr [] = emp := rfl

theorem Rd.kept {w w' : World} {p : Nat} {g : Option Nat} {bs : List Int} {at' : Nat} {e : Int} {S : Nat → Prop} (h : Rd w p g bs at' e) (hk : Kept S w w') (hp : ¬ S p) (hg : ∀ k, g = some k → ¬ S k) : Rd w' p g bs at' e := by
  obtain ⟨v, h1, rfl, h3, h4⟩ := h
  exact ⟨v, (hk.block p (lt_of h1) hp).trans h1, rfl, h3.kept hk hg, h4⟩

/-- Within Decode: the answer's block, the value's block, the Reader. -/
structure Dst (w w' : World) (p q : Nat) (g : Option Nat) (bs : List Int) (a b c : Value) (at' : Nat) (e : Int) : Prop where
  hr : w'.heap[w.heap.size]? = some (vo 0 0 emp)
  hv : w'.heap[q]? = some (.cells #[a, b, c] 23 (0, 0))
  rd : Rd w' p g bs at' e
  hb : Below w.heap.size w w'
  hp : w.heap.size < p
  hq : w.heap.size < q
  hn : q ≠ p
  hg : g ≠ some q

theorem Dst.step {w w' w2 : World} {p q : Nat} {g : Option Nat} {bs : List Int} {a b c : Value} {at' at2 : Nat} {e e2 : Int} (h : Dst w w' p q g bs a b c at' e) (hs : RdStep p g w' w2 bs at2 e2) : Dst w w2 p q g bs a b c at2 e2 := by
  obtain ⟨h1, hk⟩ := hs
  refine ⟨(hk.block _ (lt_of h.hr) (by have := h.hp; omega)).trans h.hr, (hk.block _ (lt_of h.hv) h.hn).trans h.hv, h1, h.hb.trans (hk.below h.hb.size ?_), h.hp, h.hq, h.hn, h.hg⟩
  intro k hk2 e
  have := h.hp
  omega

theorem Dst.set1 {w w' : World} {p q : Nat} {g : Option Nat} {bs : List Int} {a b c : Value} {at' : Nat} {e : Int} (h : Dst w w' p q g bs a b c at' e) (x : Value) : Dst w (w'.setCell ⟨q, 1, none⟩ x) p q g bs a x c at' e := by
  have hk : Kept (fun k => k = q) w' (w'.setCell ⟨q, 1, none⟩ x) := Kept.setCell (p := ⟨q, 1, none⟩) (Kept.refl (fun k => k = q) w') (fun _ => rfl) _
  refine ⟨(hk.block _ (lt_of h.hr) (by have := h.hq; omega)).trans h.hr, heap3_set1 h.hv, h.rd.kept hk (fun e => h.hn e.symm) (fun k hk e => h.hg (by rw [hk, e])), h.hb.trans (hk.below h.hb.size ?_), h.hp, h.hq, h.hn, h.hg⟩
  intro k hk2 e
  have := h.hq
  omega

theorem Dst.set2 {w w' : World} {p q : Nat} {g : Option Nat} {bs : List Int} {a b c : Value} {at' : Nat} {e : Int} (h : Dst w w' p q g bs a b c at' e) (x : Value) : Dst w (w'.setCell ⟨q, 2, none⟩ x) p q g bs a b x at' e := by
  have hk : Kept (fun k => k = q) w' (w'.setCell ⟨q, 2, none⟩ x) := Kept.setCell (p := ⟨q, 2, none⟩) (Kept.refl (fun k => k = q) w') (fun _ => rfl) _
  refine ⟨(hk.block _ (lt_of h.hr) (by have := h.hq; omega)).trans h.hr, heap3_set2 h.hv, h.rd.kept hk (fun e => h.hn e.symm) (fun k hk e => h.hg (by rw [hk, e])), h.hb.trans (hk.below h.hb.size ?_), h.hp, h.hq, h.hn, h.hg⟩
  intro k hk2 e
  have := h.hq
  omega

theorem Dst.drewN {w w' : World} {p q : Nat} {g : Option Nat} {bs : List Int} {a b c : Value} {at' : Nat} {e : Int} (h : Dst w w' p q g bs a b c at' e) (m : Nat) : Dst w (w'.drewN m) p q g bs a b c at' e :=
  ⟨h.hr, h.hv, h.rd.drewN m, ⟨h.hb.os, h.hb.tape, h.hb.output, h.hb.size, h.hb.block⟩, h.hp, h.hq, h.hn, h.hg⟩

/-- Behind the Byte, the value's block laid. -/
theorem Dst.mk' {w w1 w2 : World} {p : Nat} {bs : List Int} {at' : Nat} {e : Int} (hp : (w.alloc (vo 0 0 emp)).heap.size < p) (_hr : Rd w1 p (some (w.alloc (vo 0 0 emp)).heap.size) bs 0 0) (hb : Below (w.alloc (vo 0 0 emp)).heap.size (w.alloc (vo 0 0 emp)) w1) (hs : RdStep p (some (w.alloc (vo 0 0 emp)).heap.size) w1 w2 bs at' e) (a b c : Value) :
    Dst w (w2.alloc (.cells #[a, b, c] 23)) p w2.heap.size (some (w.alloc (vo 0 0 emp)).heap.size) bs a b c at' e := by
  obtain ⟨h1, hk⟩ := hs
  have hp' : w.heap.size + 1 < p := by simpa using hp
  have hpl : p < w2.heap.size := by
    obtain ⟨v, hv, _⟩ := h1
    exact lt_of hv
  have r1 := blk_of hb (heap_alloc_new w (vo 0 0 emp)) (by simp)
  have r2 : w2.heap[w.heap.size]? = some (vo 0 0 emp) := (hk.block _ (lt_of r1) (by omega)).trans r1
  have hB2 : Below w.heap.size w w2 := by
    refine (below_on (below1 w _) hb).trans (hk.below (below_on (below1 w _) hb).size ?_)
    intro k hk2 e
    omega
  have hal : Below w2.heap.size w2 (w2.alloc (.cells #[a, b, c] 23)) := below1 w2 _
  refine ⟨blk_of hal r2 (lt_of r2), heap_alloc_new w2 _, h1.kept (Kept.ofBelow hal) (fun h => h) (fun _ _ h => h), hB2.alloc hB2.size _, by omega, by omega, by omega, ?_⟩
  simp
  omega

set_option maxRecDepth 100000 in
set_option maxHeartbeats 1600000 in
theorem decode_int (v : Value) (bs : List Int) (w : World) (h : Sl w v bs) (ho : Oct bs) (hl : bs.length ≤ 1000000000) (a1 : Nat) (e1 : Int) (xx : List Int) (hk : takeZ 0 1 bs 0 0 = ((1, xx), a1, e1)) (u : Int) (x2 : List Int) (a2 : Nat) (e2 : Int) (hk2 : takeZ 2 0 bs a1 e1 = ((u, x2), a2, e2)) (en : Int) (hen : endZ bs.length a2 e2 = en) (res : Value) (hz : res = if en = 0 then .tuple #[vl 1 (unfoldZ u) emp, .int .i64 0] else .tuple #[vl 0 0 emp, .int .i64 en]) :
    Calls Try.prog 31 #[v] w fun e w' => e = .returned res ∧ Below w.heap.size w w' := by
  have HS := hid h
  have HO := hid ho
  have HK := hid hk
  have HK2 := hid hk2
  have HE := hid hen
  have HZ := hid hz
  clear h ho hk hen hz hk2
  by_cases h0 : en = 0
  · subst h0
    go_enter Try.func31, Try.ntmps31
    go_wp2_with (first
      | (go_at_call 58
         refine (read_any v bs _ (HS.out.below (below1 w _)) HO.out hl).mono ?_
         rintro e w1 ⟨p, rfl, hp1, hr1, hb1⟩
         have H1 := hid (And.intro hp1 (And.intro hr1 hb1))
         clear hp1 hr1 hb1)
      | (go_at_call 59
         refine (rbyte_any p _ bs 0 0 w1 H1.out.2.1).mono ?_
         rintro e w2 ⟨hs2, rfl⟩
         rw [HK.out] at hs2 ⊢
         dsimp only
         have H2 := hid (fun a b c => Dst.mk' H1.out.1 H1.out.2.1 H1.out.2.2 hs2 a b c)
         clear hs2)
      | (go_at_call 60
         refine (rint_any p _ bs a1 e1 _ (H2.out (.int .i64 1) (.int .i64 0) (.string emp)).rd).mono ?_
         rintro e w3 ⟨hs3, rfl⟩
         rw [HK2.out] at hs3 ⊢
         dsimp only
         have H3 := hid ((H2.out (.int .i64 1) (.int .i64 0) (.string emp)).step hs3)
         obtain ⟨c0, c1, c2, ff⟩ := vfacts H3.out.hv
         clear hs3)
      | (go_at_call 62
         refine (end_any p _ bs a2 e2 _ (H3.out.set1 (.int .i64 (unfoldZ u))).rd).mono ?_
         rintro e w4 ⟨⟨nq, e4⟩, rfl⟩
         rw [HE.out]
         have H4 := hid ((H3.out.set1 (.int .i64 (unfoldZ u))).drewN nq)
         rw [← e4] at H4
         obtain ⟨c0, c1, c2, ff⟩ := vfacts H4.out.hv
         obtain ⟨d0, d1, d2, fg⟩ := vfacts H4.out.hr
         clear e4))
    refine bodyPost_ret (ret_agg2 Try.results31 rfl (set3 H4.out.hr _ _ _)) rfl ?_
    exact ⟨by rw [HZ.out]; rfl, Below.set3 H4.out.hb (Nat.le_refl _) _ _ _⟩
  · have hb0 : (en == 0) = false := by simpa using h0
    go_enter Try.func31, Try.ntmps31
    go_wp2_with (first
      | (go_at_call 58
         refine (read_any v bs _ (HS.out.below (below1 w _)) HO.out hl).mono ?_
         rintro e w1 ⟨p, rfl, hp1, hr1, hb1⟩
         have H1 := hid (And.intro hp1 (And.intro hr1 hb1))
         clear hp1 hr1 hb1)
      | (go_at_call 59
         refine (rbyte_any p _ bs 0 0 w1 H1.out.2.1).mono ?_
         rintro e w2 ⟨hs2, rfl⟩
         rw [HK.out] at hs2 ⊢
         dsimp only
         have H2 := hid (fun a b c => Dst.mk' H1.out.1 H1.out.2.1 H1.out.2.2 hs2 a b c)
         clear hs2)
      | (go_at_call 60
         refine (rint_any p _ bs a1 e1 _ (H2.out (.int .i64 1) (.int .i64 0) (.string emp)).rd).mono ?_
         rintro e w3 ⟨hs3, rfl⟩
         rw [HK2.out] at hs3 ⊢
         dsimp only
         have H3 := hid ((H2.out (.int .i64 1) (.int .i64 0) (.string emp)).step hs3)
         obtain ⟨c0, c1, c2, ff⟩ := vfacts H3.out.hv
         clear hs3)
      | (go_at_call 62
         refine (end_any p _ bs a2 e2 _ (H3.out.set1 (.int .i64 (unfoldZ u))).rd).mono ?_
         rintro e w4 ⟨⟨nq, e4⟩, rfl⟩
         rw [HE.out]
         have H4 := hid ((H3.out.set1 (.int .i64 (unfoldZ u))).drewN nq)
         rw [← e4] at H4
         obtain ⟨c0, c1, c2, ff⟩ := vfacts H4.out.hv
         obtain ⟨d0, d1, d2, fg⟩ := vfacts H4.out.hr
         clear e4))
    refine bodyPost_ret (ret_agg2 Try.results31 rfl (set3 H4.out.hr _ _ _)) rfl ?_
    exact ⟨by rw [HZ.out]; rw [if_neg h0]; rfl, Below.set3 H4.out.hb (Nat.le_refl _) _ _ _⟩

set_option maxRecDepth 100000 in
set_option maxHeartbeats 1600000 in
theorem decode_text (v : Value) (bs : List Int) (w : World) (h : Sl w v bs) (ho : Oct bs) (hl : bs.length ≤ 1000000000) (a1 : Nat) (e1 : Int) (xx : List Int) (hk : takeZ 0 1 bs 0 0 = ((2, xx), a1, e1)) (u : Int) (x2 : List Int) (a2 : Nat) (e2 : Int) (hk2 : takeZ 3 256 bs a1 e1 = ((u, x2), a2, e2)) (en : Int) (hen : endZ bs.length a2 e2 = en) (res : Value) (hz : res = if en = 0 then .tuple #[vl 2 0 (mkStr x2), .int .i64 0] else .tuple #[vl 0 0 emp, .int .i64 en]) :
    Calls Try.prog 31 #[v] w fun e w' => e = .returned res ∧ Below w.heap.size w w' := by
  have HS := hid h
  have HO := hid ho
  have HK := hid hk
  have HK2 := hid hk2
  have HE := hid hen
  have HZ := hid hz
  clear h ho hk hen hz hk2
  by_cases h0 : en = 0
  · subst h0
    go_enter Try.func31, Try.ntmps31
    go_wp2_with (first
      | (go_at_call 58
         refine (read_any v bs _ (HS.out.below (below1 w _)) HO.out hl).mono ?_
         rintro e w1 ⟨p, rfl, hp1, hr1, hb1⟩
         have H1 := hid (And.intro hp1 (And.intro hr1 hb1))
         clear hp1 hr1 hb1)
      | (go_at_call 59
         refine (rbyte_any p _ bs 0 0 w1 H1.out.2.1).mono ?_
         rintro e w2 ⟨hs2, rfl⟩
         rw [HK.out] at hs2 ⊢
         dsimp only
         have H2 := hid (fun a b c => Dst.mk' H1.out.1 H1.out.2.1 H1.out.2.2 hs2 a b c)
         clear hs2)
      | (go_at_call 61
         refine (rtext_any p _ bs a1 e1 256 _ (H2.out (.int .i64 2) (.int .i64 0) (.string emp)).rd (by omega) (by omega)).mono ?_
         rintro e w3 ⟨hs3, rfl⟩
         rw [HK2.out] at hs3 ⊢
         dsimp only
         have H3 := hid ((H2.out (.int .i64 2) (.int .i64 0) (.string emp)).step hs3)
         obtain ⟨c0, c1, c2, ff⟩ := vfacts H3.out.hv
         clear hs3)
      | (go_at_call 62
         refine (end_any p _ bs a2 e2 _ (H3.out.set2 (.string (mkStr x2))).rd).mono ?_
         rintro e w4 ⟨⟨nq, e4⟩, rfl⟩
         rw [HE.out]
         have H4 := hid ((H3.out.set2 (.string (mkStr x2))).drewN nq)
         rw [← e4] at H4
         obtain ⟨c0, c1, c2, ff⟩ := vfacts H4.out.hv
         obtain ⟨d0, d1, d2, fg⟩ := vfacts H4.out.hr
         clear e4))
    refine bodyPost_ret (ret_agg2 Try.results31 rfl (set3 H4.out.hr _ _ _)) rfl ?_
    exact ⟨by rw [HZ.out]; rfl, Below.set3 H4.out.hb (Nat.le_refl _) _ _ _⟩
  · have hb0 : (en == 0) = false := by simpa using h0
    go_enter Try.func31, Try.ntmps31
    go_wp2_with (first
      | (go_at_call 58
         refine (read_any v bs _ (HS.out.below (below1 w _)) HO.out hl).mono ?_
         rintro e w1 ⟨p, rfl, hp1, hr1, hb1⟩
         have H1 := hid (And.intro hp1 (And.intro hr1 hb1))
         clear hp1 hr1 hb1)
      | (go_at_call 59
         refine (rbyte_any p _ bs 0 0 w1 H1.out.2.1).mono ?_
         rintro e w2 ⟨hs2, rfl⟩
         rw [HK.out] at hs2 ⊢
         dsimp only
         have H2 := hid (fun a b c => Dst.mk' H1.out.1 H1.out.2.1 H1.out.2.2 hs2 a b c)
         clear hs2)
      | (go_at_call 61
         refine (rtext_any p _ bs a1 e1 256 _ (H2.out (.int .i64 2) (.int .i64 0) (.string emp)).rd (by omega) (by omega)).mono ?_
         rintro e w3 ⟨hs3, rfl⟩
         rw [HK2.out] at hs3 ⊢
         dsimp only
         have H3 := hid ((H2.out (.int .i64 2) (.int .i64 0) (.string emp)).step hs3)
         obtain ⟨c0, c1, c2, ff⟩ := vfacts H3.out.hv
         clear hs3)
      | (go_at_call 62
         refine (end_any p _ bs a2 e2 _ (H3.out.set2 (.string (mkStr x2))).rd).mono ?_
         rintro e w4 ⟨⟨nq, e4⟩, rfl⟩
         rw [HE.out]
         have H4 := hid ((H3.out.set2 (.string (mkStr x2))).drewN nq)
         rw [← e4] at H4
         obtain ⟨c0, c1, c2, ff⟩ := vfacts H4.out.hv
         obtain ⟨d0, d1, d2, fg⟩ := vfacts H4.out.hr
         clear e4))
    refine bodyPost_ret (ret_agg2 Try.results31 rfl (set3 H4.out.hr _ _ _)) rfl ?_
    exact ⟨by rw [HZ.out]; rw [if_neg h0]; rfl, Below.set3 H4.out.hb (Nat.le_refl _) _ _ _⟩

set_option maxRecDepth 100000 in
set_option maxHeartbeats 1600000 in
theorem decode_none (v : Value) (bs : List Int) (w : World) (h : Sl w v bs) (ho : Oct bs) (hl : bs.length ≤ 1000000000) (a1 : Nat) (e1 : Int) (xx : List Int) (hk : takeZ 0 1 bs 0 0 = ((0, xx), a1, e1)) (en : Int) (hen : endZ bs.length a1 e1 = en) (res : Value) (hz : res = if en = 0 then .tuple #[vl 0 0 emp, .int .i64 0] else .tuple #[vl 0 0 emp, .int .i64 en]) :
    Calls Try.prog 31 #[v] w fun e w' => e = .returned res ∧ Below w.heap.size w w' := by
  have HS := hid h
  have HO := hid ho
  have HK := hid hk
  have HE := hid hen
  have HZ := hid hz
  clear h ho hk hen hz
  by_cases h0 : en = 0
  · subst h0
    go_enter Try.func31, Try.ntmps31
    go_wp2_with (first
      | (go_at_call 58
         refine (read_any v bs _ (HS.out.below (below1 w _)) HO.out hl).mono ?_
         rintro e w1 ⟨p, rfl, hp1, hr1, hb1⟩
         have H1 := hid (And.intro hp1 (And.intro hr1 hb1))
         clear hp1 hr1 hb1)
      | (go_at_call 59
         refine (rbyte_any p _ bs 0 0 w1 H1.out.2.1).mono ?_
         rintro e w2 ⟨hs2, rfl⟩
         rw [HK.out] at hs2 ⊢
         dsimp only
         have H2 := hid (fun a b c => Dst.mk' H1.out.1 H1.out.2.1 H1.out.2.2 hs2 a b c)
         clear hs2)
      | (go_at_call 62
         refine (end_any p _ bs a1 e1 _ (H2.out (.int .i64 0) (.int .i64 0) (.string emp)).rd).mono ?_
         rintro e w4 ⟨⟨nq, e4⟩, rfl⟩
         rw [HE.out]
         have H4 := hid ((H2.out (.int .i64 0) (.int .i64 0) (.string emp)).drewN nq)
         rw [← e4] at H4
         obtain ⟨c0, c1, c2, ff⟩ := vfacts H4.out.hv
         obtain ⟨d0, d1, d2, fg⟩ := vfacts H4.out.hr
         clear e4))
    refine bodyPost_ret (ret_agg2 Try.results31 rfl (set3 H4.out.hr _ _ _)) rfl ?_
    exact ⟨by rw [HZ.out]; rfl, Below.set3 H4.out.hb (Nat.le_refl _) _ _ _⟩
  · have hb0 : (en == 0) = false := by simpa using h0
    go_enter Try.func31, Try.ntmps31
    go_wp2_with (first
      | (go_at_call 58
         refine (read_any v bs _ (HS.out.below (below1 w _)) HO.out hl).mono ?_
         rintro e w1 ⟨p, rfl, hp1, hr1, hb1⟩
         have H1 := hid (And.intro hp1 (And.intro hr1 hb1))
         clear hp1 hr1 hb1)
      | (go_at_call 59
         refine (rbyte_any p _ bs 0 0 w1 H1.out.2.1).mono ?_
         rintro e w2 ⟨hs2, rfl⟩
         rw [HK.out] at hs2 ⊢
         dsimp only
         have H2 := hid (fun a b c => Dst.mk' H1.out.1 H1.out.2.1 H1.out.2.2 hs2 a b c)
         clear hs2)
      | (go_at_call 62
         refine (end_any p _ bs a1 e1 _ (H2.out (.int .i64 0) (.int .i64 0) (.string emp)).rd).mono ?_
         rintro e w4 ⟨⟨nq, e4⟩, rfl⟩
         rw [HE.out]
         have H4 := hid ((H2.out (.int .i64 0) (.int .i64 0) (.string emp)).drewN nq)
         rw [← e4] at H4
         obtain ⟨c0, c1, c2, ff⟩ := vfacts H4.out.hv
         obtain ⟨d0, d1, d2, fg⟩ := vfacts H4.out.hr
         clear e4))
    refine bodyPost_ret (ret_agg2 Try.results31 rfl (set3 H4.out.hr _ _ _)) rfl ?_
    exact ⟨by rw [HZ.out]; rw [if_neg h0]; rfl, Below.set3 H4.out.hb (Nat.le_refl _) _ _ _⟩

theorem below_unalloc {w w2 : World} {o : Obj} (h : Below w.heap.size w (w2.alloc o)) (hs : w.heap.size ≤ w2.heap.size) : Below w.heap.size w w2 :=
  ⟨h.os, h.tape, h.output, hs, fun k hk => (Below.heap_alloc _ _ _ (by omega)).symm.trans (h.block k hk)⟩

set_option maxRecDepth 100000 in
set_option maxHeartbeats 1600000 in
theorem decode_else (v : Value) (bs : List Int) (w : World) (h : Sl w v bs) (ho : Oct bs) (hl : bs.length ≤ 1000000000) (kk : Int) (a1 : Nat) (e1 : Int) (xx : List Int) (hk : takeZ 0 1 bs 0 0 = ((kk, xx), a1, e1)) (k0 : 3 ≤ kk) (k1 : kk < 256) :
    Calls Try.prog 31 #[v] w fun e w' => e = .returned (.tuple #[vl 0 0 emp, .int .i64 3]) ∧ Below w.heap.size w w' := by
  have HS := hid h
  have HO := hid ho
  have HK := hid hk
  clear h ho hk
  have b0 : (kk == 0) = false := by simp; omega
  have b1 : (kk == 1) = false := by simp; omega
  have b2 : (kk == 2) = false := by simp; omega
  go_enter Try.func31, Try.ntmps31
  go_wp2_with (first
      | (go_at_call 58
         refine (read_any v bs _ (HS.out.below (below1 w _)) HO.out hl).mono ?_
         rintro e w1 ⟨p, rfl, hp1, hr1, hb1⟩
         have H1 := hid (And.intro hp1 (And.intro hr1 hb1))
         clear hp1 hr1 hb1)
      | (go_at_call 59
         refine (rbyte_any p _ bs 0 0 w1 H1.out.2.1).mono ?_
         rintro e w2 ⟨hs2, rfl⟩
         rw [HK.out] at hs2 ⊢
         dsimp only
         have H2 := hid (Dst.mk' H1.out.1 H1.out.2.1 H1.out.2.2 hs2 (.int .i64 kk) (.int .i64 0) (.string emp))
         have ql := H2.out.hq
         have R2 := hid ((Below.heap_alloc _ _ _ ql).symm.trans H2.out.hr)
         have HB2 := hid (below_unalloc H2.out.hb (Nat.le_of_lt ql))
         obtain ⟨d0, d1, d2, fg⟩ := vfacts ((Below.heap_alloc _ _ _ ql).symm.trans H2.out.hr)
         clear hs2))
  refine bodyPost_ret (ret_agg2 Try.results31 rfl ((Below.heap_alloc _ _ _ (by simpa [World.setCell] using ql)).trans (set3 R2.out _ _ _))) rfl ?_
  exact ⟨rfl, (Below.set3 HB2.out (Nat.le_refl _) _ _ _).alloc (by simpa [World.setCell] using Nat.le_of_lt ql) _⟩

theorem decode_any (v : Value) (bs : List Int) (w : World) (h : Sl w v bs) (ho : Oct bs) (hl : bs.length ≤ 1000000000) :
    Calls Try.prog 31 #[v] w fun e w' => e = .returned (decV (decZ bs)) ∧ Below w.heap.size w w' := by
  have hb := takeZ_bd 0 1 bs 0 0 ho
  obtain ⟨⟨⟨kk, xx⟩, a1, e1⟩, ht⟩ : ∃ t, takeZ 0 1 bs 0 0 = t := ⟨_, rfl⟩
  rw [ht] at hb
  have h0 : 0 ≤ kk := hb.1
  have h1 : kk < 256 := hb.2.2.2 rfl rfl
  by_cases k0 : kk = 0
  · subst k0
    refine decode_none v bs w h ho hl a1 e1 xx ht _ rfl _ ?_
    simp [decV, decZ, ht, mkStr_nil]
  · by_cases k1 : kk = 1
    · subst k1
      obtain ⟨⟨⟨u, x2⟩, a2, e2⟩, ht2⟩ : ∃ t, takeZ 2 0 bs a1 e1 = t := ⟨_, rfl⟩
      refine decode_int v bs w h ho hl a1 e1 xx ht u x2 a2 e2 ht2 _ rfl _ ?_
      simp [decV, decZ, ht, ht2, mkStr_nil]
    · by_cases k2 : kk = 2
      · subst k2
        obtain ⟨⟨⟨u, x2⟩, a2, e2⟩, ht2⟩ : ∃ t, takeZ 3 256 bs a1 e1 = t := ⟨_, rfl⟩
        refine decode_text v bs w h ho hl a1 e1 xx ht u x2 a2 e2 ht2 _ rfl _ ?_
        simp [decV, decZ, ht, ht2]
      · have hd : decV (decZ bs) = .tuple #[vl 0 0 emp, .int .i64 3] := by simp [decV, decZ, ht, k0, k1, k2]
        rw [hd]
        exact decode_else v bs w h ho hl kk a1 e1 xx ht (by omega) h1

end Go.Proofs.Ytiammlngbejhkaa

namespace Go.Proofs.Ytiammlngbejhkaa
open Go.RowKit

/-- A value's bytes. -/
def encB (k i : Int) (s : ByteArray) : List Int := if k = 1 then [1] ++ rowF 10 (foldZ i) else if k = 2 then [2] ++ rowF 10 (strBs s).length ++ strBs s else [0]

/-- A new Writer. -/
theorem wr_new (w : World) (B : Nat) : Wr B (w.alloc (.cells #[.slice none 0 0, .int .i64 0] 79)) w.heap.size none [] 0 :=
  ⟨.slice none 0 0, heap_alloc_new w _, rfl, rfl, .inl ⟨rfl, rfl⟩⟩

theorem fix1 (k : Int) (h0 : 0 ≤ k) (h1 : k < 256) (bs : List Int) : wfixZ (bs, 0) k 1 = (bs ++ [k], 0) := by
  unfold wfixZ
  rw [if_pos rfl, if_neg (by omega)]
  simp [fixedB, List.range_succ]
  omega

/-- What Encode answers where a value is none. -/
def EncNo (r : Int) (w : World) (e : Ending) (w' : World) : Prop := e = .returned (.tuple #[.slice none 0 0, .int .i64 r]) ∧ Below w.heap.size w w'

set_option maxRecDepth 100000 in
set_option maxHeartbeats 800000 in
theorem encode_no (k i : Int) (s : ByteArray) (r : Int) (hr : chk k i s = r) (h0 : r ≠ 0) (w : World) : Calls Try.prog 28 #[vl k i s] w (EncNo r w) := by
  have hB0 := hid (below1 w (vo k i s))
  have hc := check_any k i s
  rw [hr] at hc
  have HC := hid hc
  have hb : (r == 0) = false := by simpa using h0
  clear hc hr
  unfold EncNo
  go_enter Try.func28, Try.ntmps28
  go_wp2_with (
    go_at_call 10
    refine (HC.out _).mono ?_
    rintro e w1 ⟨rfl, hb1⟩
    have H1 := hid (below_on hB0.out hb1)
    clear hb1)
  go_ret2
  exact ⟨rfl, H1.out⟩

/-- What Encode answers of a value. -/
def EncOk (bs : List Int) (w : World) (e : Ending) (w' : World) : Prop := ∃ g, e = .returned (.tuple #[.slice (some ⟨g, 0, none⟩) bs.length bs.length, .int .i64 0]) ∧ Own w' g bs ∧ w.heap.size ≤ g ∧ Below w.heap.size w w'

/-- Behind the first byte. -/
theorem enc_step {w w1 w2 : World} {a b c : Value} {bs : List Int} {e : Int} (h1 : w1.heap[w.heap.size]? = some (.cells #[a, b, c] 23 (0, 0))) (h2 : Below w.heap.size w w1)
    (h : WrStep w.heap.size w1.heap.size none (w1.alloc (.cells #[.slice none 0 0, .int .i64 0] 79)) w2 bs e) :
    w2.heap[w.heap.size]? = some (.cells #[a, b, c] 23 (0, 0)) ∧ ∃ g', Wr w.heap.size w2 w1.heap.size g' bs e ∧ Below w.heap.size w w2 := by
  obtain ⟨g', hW, _, hK⟩ := h
  have hlt := lt_of h1
  refine ⟨?_, g', hW, ?_⟩
  · rw [hK.block _ (by simp; omega) (by rintro (h | h); omega; cases h), Below.heap_alloc _ _ _ hlt]
    exact h1
  · refine (h2.alloc h2.size _).trans (hK.below (by simp; have := h2.size; omega) ?_)
    rintro k hk (h | h)
    · have := h2.size; omega
    · cases h

/-- Behind a further one. -/
theorem enc_step2 {w w3 w4 : World} {p : Nat} {g : Option Nat} {bs bs2 : List Int} {e e2 : Int} (hp : w.heap.size ≤ p) (h2 : Below w.heap.size w w3) (hW : Wr w.heap.size w3 p g bs e)
    (h : WrStep w.heap.size p g w3 w4 bs2 e2) : ∃ g', Wr w.heap.size w4 p g' bs2 e2 ∧ Below w.heap.size w w4 := by
  obtain ⟨g', hW2, _, hK⟩ := h
  refine ⟨g', hW2, h2.trans (hK.below h2.size ?_)⟩
  rintro k hk (h | h)
  · omega
  · have := hW.glt k h; omega

set_option maxRecDepth 100000 in
set_option maxHeartbeats 1600000 in
theorem encode_int (i : Int) (h0 : -9223372036854775808 ≤ i) (h1 : i < 9223372036854775808) (w : World) : Calls Try.prog 28 #[vl 1 i emp] w (EncOk (encB 1 i emp) w) := by
  have hB0 := hid (below1 w (vo 1 i emp))
  have hR0 := hid (heap_alloc_new w (vo 1 i emp))
  have hc := check_any 1 i emp
  rw [show chk 1 i emp = 0 by simp [chk]] at hc
  have HC := hid hc
  have HE := hid (show wintZ ([1], 0) i = (encB 1 i emp, 0) by simp [wintZ, encB])
  have HL := hid (show (encB 1 i emp).length ≤ 1000000 by simp [encB]; have := rowF_le 10 (foldZ i); omega)
  clear hc
  unfold EncOk
  have q1 := ta60
  have q2 := ta6260
  have q3 := ta62
  have q4 := tan60
  have q5 := tan62
  go_enter Try.func28, Try.ntmps28
  go_wp2_with (first
    | (go_at_call 10
       refine (HC.out _).mono ?_
       rintro e w1 ⟨rfl, hb1⟩
       have g1 := blk_of hb1 hR0.out (by simp)
       obtain ⟨c0, c1, c2, -⟩ := vfacts g1
       have n0 : w.heap.size < w1.heap.size := lt_of g1
       have H1 := hid (And.intro g1 (below_on hB0.out hb1))
       clear hb1 g1)
    | (go_at_call 51
       refine (wbyte_any w.heap.size w1.heap.size none [] 0 _ 1 (wr_new w1 _) (by simp; exact Nat.le_trans H1.out.2.size (Nat.le_succ _)) (by omega) (by omega) (by simp)).mono ?_
       rintro e w2 ⟨rfl, hs2⟩
       rw [fix1 1 (by omega) (by omega)] at hs2
       have H2 := hid (enc_step H1.out.1 H1.out.2 hs2)
       obtain ⟨c0, c1, c2, -⟩ := vfacts H2.out.1
       clear hs2)
    | (go_at_call 37
       refine (thingOf_any 1 i emp _).mono ?_
       rintro e w3 ⟨rfl, hb3⟩
       rw [thing1]
       obtain ⟨g', hW, hK⟩ := H2.out.2
       have H3 := hid (And.intro (hW.kept (Kept.ofBelow hb3) (fun h => h) (fun _ _ h => h)) (below_on hK hb3))
       clear hb3 hW hK)
    | (go_at_call 52
       refine (wint_any w.heap.size w1.heap.size g' [1] 0 _ i H3.out.1 H3.out.2.size h0 h1 (by simp)).mono ?_
       rintro e w4 ⟨rfl, hs4⟩
       have H4 := hid (enc_step2 H1.out.2.size H3.out.2 H3.out.1 hs4)
       clear hs4)
    | (go_at_call 54
       obtain ⟨g4, hW4, hB4⟩ := H4.out
       rw [HE.out] at hW4
       refine (wdata_any w.heap.size w1.heap.size g4 _ _ _ hW4 (by have := HL.out; simp only [] at *; omega)).mono ?_
       rintro e w5 ⟨rfl, ho5, hb5⟩
       have H5 := hid (And.intro ho5 (And.intro hB4.size (below_on hB4 hb5)))
       clear ho5 hb5))
  go_ret2
  exact ⟨_, rfl, H5.out.1, H5.out.2.1, H5.out.2.2⟩

set_option maxRecDepth 100000 in
set_option maxHeartbeats 1600000 in
theorem encode_text (s : ByteArray) (hs : s.size ≤ 256) (w : World) : Calls Try.prog 28 #[vl 2 0 s] w (EncOk (encB 2 0 s) w) := by
  have hB0 := hid (below1 w (vo 2 0 s))
  have hR0 := hid (heap_alloc_new w (vo 2 0 s))
  have hc := check_any 2 0 s
  rw [show chk 2 0 s = 0 by simp [chk]; omega] at hc
  have HC := hid hc
  have HE := hid (show wtextZ ([2], 0) (strBs s) = (encB 2 0 s, 0) by simp [wtextZ, encB])
  have HL := hid (show (encB 2 0 s).length ≤ 1000000 by simp [encB, strBs_len]; have := rowF_le 10 s.size; omega)
  clear hc
  unfold EncOk
  have q1 := ta60
  have q2 := ta6260
  have q3 := ta62
  have q4 := tan60
  have q5 := tan62
  go_enter Try.func28, Try.ntmps28
  go_wp2_with (first
    | (go_at_call 10
       refine (HC.out _).mono ?_
       rintro e w1 ⟨rfl, hb1⟩
       have g1 := blk_of hb1 hR0.out (by simp)
       obtain ⟨c0, c1, c2, -⟩ := vfacts g1
       have n0 : w.heap.size < w1.heap.size := lt_of g1
       have H1 := hid (And.intro g1 (below_on hB0.out hb1))
       clear hb1 g1)
    | (go_at_call 51
       refine (wbyte_any w.heap.size w1.heap.size none [] 0 _ 2 (wr_new w1 _) (by simp; exact Nat.le_trans H1.out.2.size (Nat.le_succ _)) (by omega) (by omega) (by simp)).mono ?_
       rintro e w2 ⟨rfl, hs2⟩
       rw [fix1 2 (by omega) (by omega)] at hs2
       have H2 := hid (enc_step H1.out.1 H1.out.2 hs2)
       obtain ⟨c0, c1, c2, -⟩ := vfacts H2.out.1
       clear hs2)
    | (go_at_call 37
       refine (thingOf_any 2 0 s _).mono ?_
       rintro e w3 ⟨rfl, hb3⟩
       rw [thing2]
       obtain ⟨g', hW, hK⟩ := H2.out.2
       have H3 := hid (And.intro (hW.kept (Kept.ofBelow hb3) (fun h => h) (fun _ _ h => h)) (below_on hK hb3))
       clear hb3 hW hK)
    | (go_at_call 53
       refine (wtext_any w.heap.size w1.heap.size g' [2] 0 _ s H3.out.1 H3.out.2.size (by omega) (by simp)).mono ?_
       rintro e w4 ⟨rfl, hs4⟩
       have H4 := hid (enc_step2 H1.out.2.size H3.out.2 H3.out.1 hs4)
       clear hs4)
    | (go_at_call 54
       obtain ⟨g4, hW4, hB4⟩ := H4.out
       rw [HE.out] at hW4
       refine (wdata_any w.heap.size w1.heap.size g4 _ _ _ hW4 (by have := HL.out; simp only [] at *; omega)).mono ?_
       rintro e w5 ⟨rfl, ho5, hb5⟩
       have H5 := hid (And.intro ho5 (And.intro hB4.size (below_on hB4 hb5)))
       clear ho5 hb5))
  go_ret2
  exact ⟨_, rfl, H5.out.1, H5.out.2.1, H5.out.2.2⟩

set_option maxRecDepth 100000 in
set_option maxHeartbeats 1600000 in
theorem encode_none (w : World) : Calls Try.prog 28 #[vl 0 0 emp] w (EncOk (encB 0 0 emp) w) := by
  have hB0 := hid (below1 w (vo 0 0 emp))
  have hR0 := hid (heap_alloc_new w (vo 0 0 emp))
  have hc := check_any 0 0 emp
  rw [show chk 0 0 emp = 0 by simp [chk]] at hc
  have HC := hid hc
  have HE := hid (show (([0], 0) : List Int × Int) = (encB 0 0 emp, 0) by simp [encB])
  have HL := hid (show (encB 0 0 emp).length ≤ 1000000 by simp [encB])
  clear hc
  unfold EncOk
  have q1 := ta60
  have q2 := ta6260
  have q3 := ta62
  have q4 := tan60
  have q5 := tan62
  go_enter Try.func28, Try.ntmps28
  go_wp2_with (first
    | (go_at_call 10
       refine (HC.out _).mono ?_
       rintro e w1 ⟨rfl, hb1⟩
       have g1 := blk_of hb1 hR0.out (by simp)
       obtain ⟨c0, c1, c2, -⟩ := vfacts g1
       have n0 : w.heap.size < w1.heap.size := lt_of g1
       have H1 := hid (And.intro g1 (below_on hB0.out hb1))
       clear hb1 g1)
    | (go_at_call 51
       refine (wbyte_any w.heap.size w1.heap.size none [] 0 _ 0 (wr_new w1 _) (by simp; exact Nat.le_trans H1.out.2.size (Nat.le_succ _)) (by omega) (by omega) (by simp)).mono ?_
       rintro e w2 ⟨rfl, hs2⟩
       rw [fix1 0 (by omega) (by omega)] at hs2
       have H2 := hid (enc_step H1.out.1 H1.out.2 hs2)
       obtain ⟨c0, c1, c2, -⟩ := vfacts H2.out.1
       clear hs2)
    | (go_at_call 37
       refine (thingOf_any 0 0 emp _).mono ?_
       rintro e w3 ⟨rfl, hb3⟩
       rw [thing0 0 emp (by omega) (by omega)]
       obtain ⟨g', hW, hK⟩ := H2.out.2
       have H3 := hid (And.intro (hW.kept (Kept.ofBelow hb3) (fun h => h) (fun _ _ h => h)) (below_on hK hb3))
       clear hb3 hW hK)
    | (go_at_call 54
       obtain ⟨hW4, hB4⟩ := H3.out
       have hW4 : Wr w.heap.size w3 w1.heap.size g' (([0], 0) : List Int × Int).1 (([0], 0) : List Int × Int).2 := hW4
       rw [HE.out] at hW4
       refine (wdata_any w.heap.size w1.heap.size g' _ _ _ hW4 (by have := HL.out; simp only [] at *; omega)).mono ?_
       rintro e w5 ⟨rfl, ho5, hb5⟩
       have H5 := hid (And.intro ho5 (And.intro hB4.size (below_on hB4 hb5)))
       clear ho5 hb5))
  go_ret2
  exact ⟨_, rfl, H5.out.1, H5.out.2.1, H5.out.2.2⟩

/-- What Encode answers. -/
theorem encode_any (k i : Int) (s : ByteArray) (h0 : -9223372036854775808 ≤ i) (h1 : i < 9223372036854775808) (w : World) :
    Calls Try.prog 28 #[vl k i s] w fun e w' => (chk k i s ≠ 0 ∧ EncNo (chk k i s) w e w') ∨ (chk k i s = 0 ∧ EncOk (encB k i s) w e w') := by
  by_cases hc : chk k i s = 0
  · refine Calls.mono (R := EncOk (encB k i s) w) ?_ (fun e w' h => .inr ⟨hc, h⟩)
    unfold chk at hc
    split at hc
    · rename_i hk
      subst hk
      split at hc
      · rename_i hs
        subst hs
        exact encode_int i h0 h1 w
      · omega
    · split at hc
      · rename_i hk
        subst hk
        split at hc
        · rename_i hi
          subst hi
          split at hc
          · omega
          · exact encode_text s (by omega) w
        · omega
      · split at hc
        · rename_i hk
          obtain ⟨rfl, rfl, rfl⟩ := hk
          exact encode_none w
        · omega
  · exact Calls.mono (encode_no k i s _ rfl hc w) (fun e w' h => .inl ⟨hc, h⟩)

end Go.Proofs.Ytiammlngbejhkaa

namespace Go.Proofs.Ytiammlngbejhkaa
open Go.RowKit

/-- The table of comparisons in the heap. -/
abbrev cmpTab : Obj := .cells #[.int .i64 1, .func (.func 71) #[] #[], .int .i64 2, .func (.func 72) #[] #[], .int .i64 3, .func (.func 73) #[] #[], .int .i64 4, .func (.func 74) #[] #[], .int .i64 5, .func (.func 75) #[] #[], .int .i64 6, .func (.func 76) #[] #[]] 68

set_option maxRecDepth 100000 in
set_option maxHeartbeats 1600000 in
theorem comparisons_any (w : World) : Calls Try.prog 40 #[] w fun x w' => x = .returned (.slice (some ⟨w.heap.size, 0, none⟩) 6 6) ∧ w'.heap[w.heap.size]? = some cmpTab ∧ Below w.heap.size w w' := by
  go_enter Try.func40, Try.ntmps40
  go_wp2
  go_ret
  exact ⟨rfl, heap_alloc_new w _, below1 w _⟩

set_option maxRecDepth 100000 in
set_option maxHeartbeats 800000 in
theorem met1 (c : Int) (w : World) : Calls Try.prog 71 #[.int .i64 c] w fun x w' => x = .returned (.bool (c == 0)) ∧ w' = w := by
  go_enter Try.func71, Try.ntmps71
  go_wp2
  go_ret
  exact ⟨rfl, rfl⟩

set_option maxRecDepth 100000 in
set_option maxHeartbeats 800000 in
theorem met2 (c : Int) (w : World) : Calls Try.prog 72 #[.int .i64 c] w fun x w' => x = .returned (.bool (!(c == 0))) ∧ w' = w := by
  go_enter Try.func72, Try.ntmps72
  go_wp2
  go_ret
  exact ⟨rfl, rfl⟩

set_option maxRecDepth 100000 in
set_option maxHeartbeats 800000 in
theorem met3 (c : Int) (w : World) : Calls Try.prog 73 #[.int .i64 c] w fun x w' => x = .returned (.bool (decide (c < 0))) ∧ w' = w := by
  go_enter Try.func73, Try.ntmps73
  go_wp2
  go_ret
  exact ⟨rfl, rfl⟩

set_option maxRecDepth 100000 in
set_option maxHeartbeats 800000 in
theorem met4 (c : Int) (w : World) : Calls Try.prog 74 #[.int .i64 c] w fun x w' => x = .returned (.bool (decide (c ≤ 0))) ∧ w' = w := by
  go_enter Try.func74, Try.ntmps74
  go_wp2
  go_ret
  exact ⟨rfl, rfl⟩

set_option maxRecDepth 100000 in
set_option maxHeartbeats 800000 in
theorem met5 (c : Int) (w : World) : Calls Try.prog 75 #[.int .i64 c] w fun x w' => x = .returned (.bool (decide (0 < c))) ∧ w' = w := by
  go_enter Try.func75, Try.ntmps75
  go_wp2
  go_ret
  exact ⟨rfl, rfl⟩

set_option maxRecDepth 100000 in
set_option maxHeartbeats 800000 in
theorem met6 (c : Int) (w : World) : Calls Try.prog 76 #[.int .i64 c] w fun x w' => x = .returned (.bool (decide (0 ≤ c))) ∧ w' = w := by
  go_enter Try.func76, Try.ntmps76
  go_wp2
  go_ret
  exact ⟨rfl, rfl⟩

end Go.Proofs.Ytiammlngbejhkaa

namespace Go.Proofs.Ytiammlngbejhkaa
open Go.RowKit

/-- Does a comparison hold, by what Compare answers? -/
def holdsB (how c : Int) : Bool :=
  if how = 1 then c == 0 else if how = 2 then !(c == 0) else if how = 3 then decide (c < 0) else if how = 4 then decide (c ≤ 0) else if how = 5 then decide (0 < c) else if how = 6 then decide (0 ≤ c) else false

theorem tab_cells {w : World} {r : Nat} (h : w.heap[r]? = some cmpTab) :
    w.cell? ⟨r, 0, none⟩ = some (.int .i64 1) ∧ w.cell? ⟨r, 1, none⟩ = some (.func (.func 71) #[] #[]) ∧ w.cell? ⟨r, 2, none⟩ = some (.int .i64 2) ∧ w.cell? ⟨r, 3, none⟩ = some (.func (.func 72) #[] #[]) ∧
    w.cell? ⟨r, 4, none⟩ = some (.int .i64 3) ∧ w.cell? ⟨r, 5, none⟩ = some (.func (.func 73) #[] #[]) ∧ w.cell? ⟨r, 6, none⟩ = some (.int .i64 4) ∧ w.cell? ⟨r, 7, none⟩ = some (.func (.func 74) #[] #[]) ∧
    w.cell? ⟨r, 8, none⟩ = some (.int .i64 5) ∧ w.cell? ⟨r, 9, none⟩ = some (.func (.func 75) #[] #[]) ∧ w.cell? ⟨r, 10, none⟩ = some (.int .i64 6) ∧ w.cell? ⟨r, 11, none⟩ = some (.func (.func 76) #[] #[]) := by
  refine ⟨?_, ?_, ?_, ?_, ?_, ?_, ?_, ?_, ?_, ?_, ?_, ?_⟩ <;> (rw [cell_of_row w r _ _ _ _ h]; rfl)

theorem tab_at {w : World} {r : Nat} (h : w.heap[r]? = some cmpTab) (n : Nat) (hn : n < 6) :
    w.cell? ⟨r, n * 2, none⟩ = some (.int .i64 (n + 1)) ∧ w.cell? ⟨r, n * 2 + 1, none⟩ = some (.func (.func (71 + n)) #[] #[]) := by
  obtain ⟨t0, t1, t2, t3, t4, t5, t6, t7, t8, t9, t10, t11⟩ := tab_cells h
  rcases (by omega : n = 0 ∨ n = 1 ∨ n = 2 ∨ n = 3 ∨ n = 4 ∨ n = 5) with rfl | rfl | rfl | rfl | rfl | rfl
  · exact ⟨t0, t1⟩
  · exact ⟨t2, t3⟩
  · exact ⟨t4, t5⟩
  · exact ⟨t6, t7⟩
  · exact ⟨t8, t9⟩
  · exact ⟨t10, t11⟩

theorem met_any (n : Nat) (hn : n < 6) (c : Int) (w : World) : Calls Try.prog (71 + n) #[.int .i64 c] w fun x w' => x = .returned (.bool (holdsB (n + 1) c)) ∧ w' = w := by
  rcases (by omega : n = 0 ∨ n = 1 ∨ n = 2 ∨ n = 3 ∨ n = 4 ∨ n = 5) with rfl | rfl | rfl | rfl | rfl | rfl
  · exact met1 c w
  · exact met2 c w
  · exact met3 c w
  · exact met4 c w
  · exact met5 c w
  · exact met6 c w

/-- Behind the call within the round. -/
theorem holds_close {w wr : World} (b : Bool) (h : Below w.heap.size w wr) : ∀ (o : Obj) (w2 : World), Below (wr.alloc o).heap.size (wr.alloc o) w2 → Below w.heap.size w w2 := by
  have _ := b
  intro o w2 h2
  exact (h.alloc h.size o).trans (h2.mono (h.alloc h.size o).size)

theorem blk_alloc {wr w2 : World} {p o : Obj} {r : Nat} (h : Below (wr.alloc o).heap.size (wr.alloc o).drew w2) (hr : wr.heap[r]? = some p) : w2.heap[r]? = some p := by
  have h1 := lt_of hr
  rw [h.block r (by simp; omega)]
  exact (Below.heap_alloc _ _ _ h1).trans hr

theorem fn_cell {wr w2 : World} {a b : Value} (h : Below (wr.alloc (.cells #[a, b] 68)).heap.size (wr.alloc (.cells #[a, b] 68)).drew w2) : w2.cell? ⟨wr.heap.size, 1, none⟩ = some b := by
  have h1 : w2.heap[wr.heap.size]? = some (.cells #[a, b] 68 (0, 0)) := (h.block _ (by simp)).trans (heap_alloc_new wr _)
  rw [cell_of_row w2 _ _ _ _ _ h1]
  rfl

set_option maxRecDepth 100000 in
set_option maxHeartbeats 1600000 in
theorem holds_any (how k i : Int) (s : ByteArray) (l j : Int) (t : ByteArray) (w : World) : Calls Try.prog 14 #[.int .i64 how, vl k i s, vl l j t] w fun x w' => x = .returned (.bool (holdsB how (cmpV k i s l j t))) ∧ Below w.heap.size w w' := by
  have hB0 := hid (below2 w (vo k i s) (vo l j t))
  have hR1 := hid (two1 w (vo k i s) (vo l j t))
  have hR2 := hid (two2 w (vo k i s) (vo l j t))
  go_enter Try.func14, Try.ntmps14
  go_wp2_with (
           go_at_call 40
           refine (comparisons_any _).mono ?_
           rintro e w1 ⟨rfl, ht1, hb1⟩
           have ht1 : w1.heap[w.heap.size + 1 + 1]? = some cmpTab := by simpa using ht1
           have H1 := hid (And.intro ht1 (And.intro (blk_of hb1 hR1.out (by simp; omega)) (And.intro (blk_of hb1 hR2.out (by simp)) (hB0.out.trans (hb1.mono hB0.out.size)))))
           clear hb1 ht1)
  go_loopw [11] (fun ix wr => ∃ n : Nat, n ≤ 6 ∧ ix = .int .i64 n ∧ Hid (Below w1.heap.size w1 wr) ∧ Hid (∀ m : Nat, m < n → how ≠ m + 1)) (fun ix _ => 6 - (intOf ix).toNat)
  case atStart => exact ⟨0, by omega, rfl, hid (Below.refl _ _), hid (by intro m hm; omega)⟩
  case round =>
    obtain ⟨n, hn, rfl, hb, hm⟩ := hrel
    by_cases hlt : n < 6
    · have hT := tab_at (blk_of hb.out H1.out.1 (lt_of H1.out.1)) n hlt
      have hlt' : (n : Int) < 6 := by omega
      by_cases hh : how = n + 1
      · subst hh
        obtain ⟨c0, c1, c2, -⟩ := vfacts (blk_of hb.out H1.out.2.1 (lt_of H1.out.2.1))
        obtain ⟨d0, d1, d2, -⟩ := vfacts (blk_of hb.out H1.out.2.2.1 (lt_of H1.out.2.2.1))
        have n1 := World.new_ne wr ⟨w.heap.size, 0, none⟩ c0
        have n2 := World.new_ne wr ⟨w.heap.size + 1, 0, none⟩ d0
        have hc := hid (holds_close (holdsB (n + 1) (cmpV k i s l j t)) (H1.out.2.2.2.trans (hb.out.mono H1.out.2.2.2.size)))
        have hA := hid (blk_of hb.out H1.out.2.1 (lt_of H1.out.2.1))
        have hD := hid (blk_of hb.out H1.out.2.2.1 (lt_of H1.out.2.2.1))
        clear H1 hb
        obtain ⟨T0, T1⟩ := hT
        rcases (by omega : n = 0 ∨ n = 1 ∨ n = 2 ∨ n = 3 ∨ n = 4 ∨ n = 5) with rfl | rfl | rfl | rfl | rfl | rfl
        · have hmet := hid (met_any 0 (by omega) (cmpV k i s l j t))
          go_wp2
          go_region_held (fun w' => w'.cell? ⟨wr.heap.size, 1, none⟩ = some (.func (.func 71) #[] #[]) ∧ w'.cell? ⟨w.heap.size, 0, none⟩ = some (.int .i64 k) ∧ w'.cell? ⟨w.heap.size, 1, none⟩ = some (.int .i64 i) ∧ w'.cell? ⟨w.heap.size, 2, none⟩ = some (.string s) ∧ w'.cell? ⟨w.heap.size + 1, 0, none⟩ = some (.int .i64 l) ∧ w'.cell? ⟨w.heap.size + 1, 1, none⟩ = some (.int .i64 j) ∧ w'.cell? ⟨w.heap.size + 1, 2, none⟩ = some (.string t)) (go_keep) (first
            | (go_at_call 12
               refine (compare_any k i s l j t _).mono ?_
               rintro e w2 ⟨rfl, hb2⟩
               have f1 : w2.cell? ⟨wr.heap.size, 1, none⟩ = some (.func (.func 71) #[] #[]) := fn_cell hb2
               obtain ⟨c0, c1, c2, -⟩ := vfacts (blk_alloc hb2 hA.out)
               obtain ⟨d0, d1, d2, -⟩ := vfacts (blk_alloc hb2 hD.out)
               have HB2 := hid hb2
               clear hb2)
            | (go_at_call 71
               refine (hmet.out _).mono ?_
               rintro e w3 ⟨rfl, e3⟩
               rw [e3]
               clear e3 w3))
          go_wp2
          go_ret
          exact ⟨rfl, hc.out _ w2 ⟨HB2.out.os, HB2.out.tape, HB2.out.output, HB2.out.size, HB2.out.block⟩⟩
        · have hmet := hid (met_any 1 (by omega) (cmpV k i s l j t))
          go_wp2
          go_region_held (fun w' => w'.cell? ⟨wr.heap.size, 1, none⟩ = some (.func (.func 72) #[] #[]) ∧ w'.cell? ⟨w.heap.size, 0, none⟩ = some (.int .i64 k) ∧ w'.cell? ⟨w.heap.size, 1, none⟩ = some (.int .i64 i) ∧ w'.cell? ⟨w.heap.size, 2, none⟩ = some (.string s) ∧ w'.cell? ⟨w.heap.size + 1, 0, none⟩ = some (.int .i64 l) ∧ w'.cell? ⟨w.heap.size + 1, 1, none⟩ = some (.int .i64 j) ∧ w'.cell? ⟨w.heap.size + 1, 2, none⟩ = some (.string t)) (go_keep) (first
            | (go_at_call 12
               refine (compare_any k i s l j t _).mono ?_
               rintro e w2 ⟨rfl, hb2⟩
               have f1 : w2.cell? ⟨wr.heap.size, 1, none⟩ = some (.func (.func 72) #[] #[]) := fn_cell hb2
               obtain ⟨c0, c1, c2, -⟩ := vfacts (blk_alloc hb2 hA.out)
               obtain ⟨d0, d1, d2, -⟩ := vfacts (blk_alloc hb2 hD.out)
               have HB2 := hid hb2
               clear hb2)
            | (go_at_call 72
               refine (hmet.out _).mono ?_
               rintro e w3 ⟨rfl, e3⟩
               rw [e3]
               clear e3 w3))
          go_wp2
          go_ret
          exact ⟨rfl, hc.out _ w2 ⟨HB2.out.os, HB2.out.tape, HB2.out.output, HB2.out.size, HB2.out.block⟩⟩
        · have hmet := hid (met_any 2 (by omega) (cmpV k i s l j t))
          go_wp2
          go_region_held (fun w' => w'.cell? ⟨wr.heap.size, 1, none⟩ = some (.func (.func 73) #[] #[]) ∧ w'.cell? ⟨w.heap.size, 0, none⟩ = some (.int .i64 k) ∧ w'.cell? ⟨w.heap.size, 1, none⟩ = some (.int .i64 i) ∧ w'.cell? ⟨w.heap.size, 2, none⟩ = some (.string s) ∧ w'.cell? ⟨w.heap.size + 1, 0, none⟩ = some (.int .i64 l) ∧ w'.cell? ⟨w.heap.size + 1, 1, none⟩ = some (.int .i64 j) ∧ w'.cell? ⟨w.heap.size + 1, 2, none⟩ = some (.string t)) (go_keep) (first
            | (go_at_call 12
               refine (compare_any k i s l j t _).mono ?_
               rintro e w2 ⟨rfl, hb2⟩
               have f1 : w2.cell? ⟨wr.heap.size, 1, none⟩ = some (.func (.func 73) #[] #[]) := fn_cell hb2
               obtain ⟨c0, c1, c2, -⟩ := vfacts (blk_alloc hb2 hA.out)
               obtain ⟨d0, d1, d2, -⟩ := vfacts (blk_alloc hb2 hD.out)
               have HB2 := hid hb2
               clear hb2)
            | (go_at_call 73
               refine (hmet.out _).mono ?_
               rintro e w3 ⟨rfl, e3⟩
               rw [e3]
               clear e3 w3))
          go_wp2
          go_ret
          exact ⟨rfl, hc.out _ w2 ⟨HB2.out.os, HB2.out.tape, HB2.out.output, HB2.out.size, HB2.out.block⟩⟩
        · have hmet := hid (met_any 3 (by omega) (cmpV k i s l j t))
          go_wp2
          go_region_held (fun w' => w'.cell? ⟨wr.heap.size, 1, none⟩ = some (.func (.func 74) #[] #[]) ∧ w'.cell? ⟨w.heap.size, 0, none⟩ = some (.int .i64 k) ∧ w'.cell? ⟨w.heap.size, 1, none⟩ = some (.int .i64 i) ∧ w'.cell? ⟨w.heap.size, 2, none⟩ = some (.string s) ∧ w'.cell? ⟨w.heap.size + 1, 0, none⟩ = some (.int .i64 l) ∧ w'.cell? ⟨w.heap.size + 1, 1, none⟩ = some (.int .i64 j) ∧ w'.cell? ⟨w.heap.size + 1, 2, none⟩ = some (.string t)) (go_keep) (first
            | (go_at_call 12
               refine (compare_any k i s l j t _).mono ?_
               rintro e w2 ⟨rfl, hb2⟩
               have f1 : w2.cell? ⟨wr.heap.size, 1, none⟩ = some (.func (.func 74) #[] #[]) := fn_cell hb2
               obtain ⟨c0, c1, c2, -⟩ := vfacts (blk_alloc hb2 hA.out)
               obtain ⟨d0, d1, d2, -⟩ := vfacts (blk_alloc hb2 hD.out)
               have HB2 := hid hb2
               clear hb2)
            | (go_at_call 74
               refine (hmet.out _).mono ?_
               rintro e w3 ⟨rfl, e3⟩
               rw [e3]
               clear e3 w3))
          go_wp2
          go_ret
          exact ⟨rfl, hc.out _ w2 ⟨HB2.out.os, HB2.out.tape, HB2.out.output, HB2.out.size, HB2.out.block⟩⟩
        · have hmet := hid (met_any 4 (by omega) (cmpV k i s l j t))
          go_wp2
          go_region_held (fun w' => w'.cell? ⟨wr.heap.size, 1, none⟩ = some (.func (.func 75) #[] #[]) ∧ w'.cell? ⟨w.heap.size, 0, none⟩ = some (.int .i64 k) ∧ w'.cell? ⟨w.heap.size, 1, none⟩ = some (.int .i64 i) ∧ w'.cell? ⟨w.heap.size, 2, none⟩ = some (.string s) ∧ w'.cell? ⟨w.heap.size + 1, 0, none⟩ = some (.int .i64 l) ∧ w'.cell? ⟨w.heap.size + 1, 1, none⟩ = some (.int .i64 j) ∧ w'.cell? ⟨w.heap.size + 1, 2, none⟩ = some (.string t)) (go_keep) (first
            | (go_at_call 12
               refine (compare_any k i s l j t _).mono ?_
               rintro e w2 ⟨rfl, hb2⟩
               have f1 : w2.cell? ⟨wr.heap.size, 1, none⟩ = some (.func (.func 75) #[] #[]) := fn_cell hb2
               obtain ⟨c0, c1, c2, -⟩ := vfacts (blk_alloc hb2 hA.out)
               obtain ⟨d0, d1, d2, -⟩ := vfacts (blk_alloc hb2 hD.out)
               have HB2 := hid hb2
               clear hb2)
            | (go_at_call 75
               refine (hmet.out _).mono ?_
               rintro e w3 ⟨rfl, e3⟩
               rw [e3]
               clear e3 w3))
          go_wp2
          go_ret
          exact ⟨rfl, hc.out _ w2 ⟨HB2.out.os, HB2.out.tape, HB2.out.output, HB2.out.size, HB2.out.block⟩⟩
        · have hmet := hid (met_any 5 (by omega) (cmpV k i s l j t))
          go_wp2
          go_region_held (fun w' => w'.cell? ⟨wr.heap.size, 1, none⟩ = some (.func (.func 76) #[] #[]) ∧ w'.cell? ⟨w.heap.size, 0, none⟩ = some (.int .i64 k) ∧ w'.cell? ⟨w.heap.size, 1, none⟩ = some (.int .i64 i) ∧ w'.cell? ⟨w.heap.size, 2, none⟩ = some (.string s) ∧ w'.cell? ⟨w.heap.size + 1, 0, none⟩ = some (.int .i64 l) ∧ w'.cell? ⟨w.heap.size + 1, 1, none⟩ = some (.int .i64 j) ∧ w'.cell? ⟨w.heap.size + 1, 2, none⟩ = some (.string t)) (go_keep) (first
            | (go_at_call 12
               refine (compare_any k i s l j t _).mono ?_
               rintro e w2 ⟨rfl, hb2⟩
               have f1 : w2.cell? ⟨wr.heap.size, 1, none⟩ = some (.func (.func 76) #[] #[]) := fn_cell hb2
               obtain ⟨c0, c1, c2, -⟩ := vfacts (blk_alloc hb2 hA.out)
               obtain ⟨d0, d1, d2, -⟩ := vfacts (blk_alloc hb2 hD.out)
               have HB2 := hid hb2
               clear hb2)
            | (go_at_call 76
               refine (hmet.out _).mono ?_
               rintro e w3 ⟨rfl, e3⟩
               rw [e3]
               clear e3 w3))
          go_wp2
          go_ret
          exact ⟨rfl, hc.out _ w2 ⟨HB2.out.os, HB2.out.tape, HB2.out.output, HB2.out.size, HB2.out.block⟩⟩
      · have hh2 : ((n : Int) + 1 == how) = false := by simp; omega
        obtain ⟨T0, T1⟩ := hT
        have i1 : (0 : Int) ≤ (n : Int) := by omega
        go_wp2
        refine ⟨⟨n + 1, by omega, by simp, hid (hb.out.alloc hb.out.size _), hid ?_⟩, by simp [intOf]; omega⟩
        intro m hm1
        rcases Nat.lt_succ_iff_lt_or_eq.1 hm1 with h | rfl
        · exact hm.out m h
        · exact hh
    · have he : n = 6 := by omega
      subst he
      go_wp2
      go_ret
      refine ⟨?_, H1.out.2.2.2.trans (hb.out.mono H1.out.2.2.2.size)⟩
      have h1 := hm.out 0 (by omega)
      have h2 := hm.out 1 (by omega)
      have h3 := hm.out 2 (by omega)
      have h4 := hm.out 3 (by omega)
      have h5 := hm.out 4 (by omega)
      have h6 := hm.out 5 (by omega)
      rw [show holdsB how (cmpV k i s l j t) = false by unfold holdsB; simp_all]
      rfl

end Go.Proofs.Ytiammlngbejhkaa

namespace Go.Proofs.Ytiammlngbejhkaa
open Go.RowKit

theorem rckT_shape (a b : Bool) (v : Int) : ∃ x y z u, rckT a b v = .tuple #[vl x y z, .int .i64 u] := by
  unfold rckT rckV
  split
  · split
    · exact ⟨_, _, _, _, rfl⟩
    · exact ⟨_, _, _, _, rfl⟩
  · exact ⟨_, _, _, _, rfl⟩

set_option maxRecDepth 100000 in
set_option maxHeartbeats 800000 in
theorem add_any (k i : Int) (s : ByteArray) (l j : Int) (t : ByteArray) (hi : inR i = true) (hj : inR j = true) (w : World) :
    Calls Try.prog 18 #[vl k i s, vl l j t] w fun e w' => e = .returned (rckT (isI k s) (isI l t) (i + j)) ∧ Below w.heap.size w w' := by
  obtain ⟨-, -, hC, h0⟩ := three w (vo k i s) (vo l j t) (vo 0 0 emp)
  have HC := hid hC
  have H0 := hid h0
  clear hC h0
  have hr := hid (reckon_any 42 k i s l j t (i + j) (fun _ _ => sum_reck i j hi hj) (enters_of Try.func42 (by kernel_rfl) rfl))
  have hsh := hid (rckT_shape (isI k s) (isI l t) (i + j))
  go_enter Try.func18, Try.ntmps18
  go_wp2_with (
    go_at_call 41
    refine (hr.out _).mono ?_
    rintro e w1 ⟨rfl, hb1⟩
    obtain ⟨a, b, c, d, hs⟩ := hsh.out
    rw [hs]
    have g2 := blk_of hb1 HC.out (by simp)
    obtain ⟨c0, c1, c2, ff⟩ := vfacts g2
    have HS := hid hs
    have H1 := hid (And.intro g2 (below_on H0.out hb1))
    clear hb1 g2 hs)
  refine bodyPost_ret (ret_agg2 Try.results18 rfl (set3 H1.out.1 _ _ _)) rfl ?_
  exact ⟨by rw [HS.out]; rfl, Below.set3 H1.out.2 (by omega) _ _ _⟩

set_option maxRecDepth 100000 in
set_option maxHeartbeats 800000 in
theorem sub_any (k i : Int) (s : ByteArray) (l j : Int) (t : ByteArray) (hi : inR i = true) (hj : inR j = true) (w : World) :
    Calls Try.prog 20 #[vl k i s, vl l j t] w fun e w' => e = .returned (rckT (isI k s) (isI l t) (i - j)) ∧ Below w.heap.size w w' := by
  obtain ⟨-, -, hC, h0⟩ := three w (vo k i s) (vo l j t) (vo 0 0 emp)
  have HC := hid hC
  have H0 := hid h0
  clear hC h0
  have hr := hid (reckon_any 45 k i s l j t (i - j) (fun _ _ => diff_reck i j hi hj) (enters_of Try.func45 (by kernel_rfl) rfl))
  have hsh := hid (rckT_shape (isI k s) (isI l t) (i - j))
  go_enter Try.func20, Try.ntmps20
  go_wp2_with (
    go_at_call 41
    refine (hr.out _).mono ?_
    rintro e w1 ⟨rfl, hb1⟩
    obtain ⟨a, b, c, d, hs⟩ := hsh.out
    rw [hs]
    have g2 := blk_of hb1 HC.out (by simp)
    obtain ⟨c0, c1, c2, ff⟩ := vfacts g2
    have HS := hid hs
    have H1 := hid (And.intro g2 (below_on H0.out hb1))
    clear hb1 g2 hs)
  refine bodyPost_ret (ret_agg2 Try.results20 rfl (set3 H1.out.1 _ _ _)) rfl ?_
  exact ⟨by rw [HS.out]; rfl, Below.set3 H1.out.2 (by omega) _ _ _⟩

set_option maxRecDepth 100000 in
set_option maxHeartbeats 800000 in
theorem mul_any (k i : Int) (s : ByteArray) (l j : Int) (t : ByteArray) (hi : inR i = true) (hj : inR j = true) (w : World) :
    Calls Try.prog 22 #[vl k i s, vl l j t] w fun e w' => e = .returned (rckT (isI k s) (isI l t) (i * j)) ∧ Below w.heap.size w w' := by
  obtain ⟨-, -, hC, h0⟩ := three w (vo k i s) (vo l j t) (vo 0 0 emp)
  have HC := hid hC
  have H0 := hid h0
  clear hC h0
  have hr := hid (reckon_any 46 k i s l j t (i * j) (fun _ _ => prod_reck i j hi hj) (enters_of Try.func46 (by kernel_rfl) rfl))
  have hsh := hid (rckT_shape (isI k s) (isI l t) (i * j))
  go_enter Try.func22, Try.ntmps22
  go_wp2_with (
    go_at_call 41
    refine (hr.out _).mono ?_
    rintro e w1 ⟨rfl, hb1⟩
    obtain ⟨a, b, c, d, hs⟩ := hsh.out
    rw [hs]
    have g2 := blk_of hb1 HC.out (by simp)
    obtain ⟨c0, c1, c2, ff⟩ := vfacts g2
    have HS := hid hs
    have H1 := hid (And.intro g2 (below_on H0.out hb1))
    clear hb1 g2 hs)
  refine bodyPost_ret (ret_agg2 Try.results22 rfl (set3 H1.out.1 _ _ _)) rfl ?_
  exact ⟨by rw [HS.out]; rfl, Below.set3 H1.out.2 (by omega) _ _ _⟩

/-- The key that a value is. -/
def keyV (k i : Int) (s : ByteArray) : Value := if k = 2 ∧ i = 0 ∧ s.size ≤ 256 then (if isKeyB s = true then .tuple #[.string s, .int .i64 0] else .tuple #[.string emp, .int .i64 5]) else .tuple #[.string emp, .int .i64 14]

set_option maxRecDepth 100000 in
set_option maxHeartbeats 800000 in
theorem key_any (k i : Int) (s : ByteArray) (w : World) : Calls Try.prog 26 #[vl k i s] w fun e w' => e = .returned (keyV k i s) ∧ Below w.heap.size w w' := by
  have hB0 := hid (below1 w (vo k i s))
  have q1 := ta6062
  have q2 := ta62
  have q3 := tan62
  have ha := checked_any k i s
  rcases chd_cases k i s with ⟨rfl, rfl, h⟩ | ⟨rfl, rfl, h2, h⟩ | ⟨h, h1, h2⟩
  · rw [h] at ha
    have PA := hid ha
    have hk : keyV 1 i emp = .tuple #[.string emp, .int .i64 14] := by unfold keyV; rw [if_neg (by omega)]
    rw [hk]
    clear ha h hk
    go_enter Try.func26, Try.ntmps26
    go_wp2_with (
       go_at_call 47
       refine (PA.out _).mono ?_
       rintro e w1 ⟨rfl, hb1⟩
       have H1 := hid (below_on hB0.out hb1)
       clear hb1)
    go_ret2
    exact ⟨rfl, H1.out⟩
  · rw [h] at ha
    have PA := hid ha
    clear ha h
    obtain ⟨b, hb⟩ : ∃ b, b = isKeyB s := ⟨_, rfl⟩
    have hik := isKey_any s
    rw [← hb] at hik
    have HK := hid hik
    have hk : keyV 2 0 s = if b = true then .tuple #[.string s, .int .i64 0] else .tuple #[.string emp, .int .i64 5] := by unfold keyV; rw [if_pos ⟨rfl, rfl, h2⟩, hb]
    rw [hk]
    clear hik hb hk
    cases b
    all_goals
      go_enter Try.func26, Try.ntmps26
      go_wp2_with (first
       | (go_at_call 47
          refine (PA.out _).mono ?_
          rintro e w1 ⟨rfl, hb1⟩
          have H1 := hid (below_on hB0.out hb1)
          clear hb1)
       | (go_at_call 16
          refine (HK.out _).mono ?_
          rintro e w2 ⟨rfl, e2⟩
          rw [e2]
          clear e2 w2)
       | (go_at_call 50
          refine (strClone_any s _ (by omega)).mono ?_
          rintro e w3 ⟨rfl, hb3⟩
          have H3 := hid (below_on H1.out hb3)
          clear hb3))
      go_ret2
      first
        | exact ⟨rfl, H3.out⟩
        | exact ⟨rfl, H1.out⟩
  · rw [h] at ha
    have PA := hid ha
    have hk : keyV k i s = .tuple #[.string emp, .int .i64 14] := by unfold keyV; rw [if_neg h2]
    rw [hk]
    clear ha h h2 h1 hk
    go_enter Try.func26, Try.ntmps26
    go_wp2_with (
       go_at_call 47
       refine (PA.out _).mono ?_
       rintro e w1 ⟨rfl, hb1⟩
       have H1 := hid (below_on hB0.out hb1)
       clear hb1)
    go_ret2
    exact ⟨rfl, H1.out⟩

end Go.Proofs.Ytiammlngbejhkaa

namespace Go.Proofs.Ytiammlngbejhkaa
open Go.RowKit

theorem drewN_drewN' (w : World) (n m : Nat) : (w.drewN n).drewN m = w.drewN (n + m) := by
  simp [World.drewN, Nat.add_assoc]

theorem take_eq_step (xs ys : List Int) (k : Nat) (ha : k < xs.length) (hb : k < ys.length) (h : xs.take k = ys.take k) : xs.take (k + 1) = ys.take (k + 1) ↔ xs[k] = ys[k] := by
  rw [List.take_succ_eq_append_getElem ha, List.take_succ_eq_append_getElem hb, h]
  constructor
  · intro h2
    have := List.append_cancel_left h2
    injection this
  · intro h2
    rw [h2]

/-- w' is w behind some draws. -/
def DN (w w' : World) : Prop := ∃ nq, w' = w.drewN nq
theorem DN.refl (w : World) : DN w w := ⟨0, rfl⟩
theorem DN.more {w w' : World} (h : DN w w') (n : Nat) : DN w (w'.drewN n) := by
  obtain ⟨k, rfl⟩ := h
  exact ⟨_, drewN_drewN' _ _ _⟩
theorem DN.cell {w w' : World} (h : DN w w') (a : Addr) : w'.cell? a = w.cell? a := by
  obtain ⟨k, rfl⟩ := h
  simp

set_option maxRecDepth 100000 in
set_option maxHeartbeats 800000 in
theorem bytes_any (a b : Value) (xs ys : List Int) (w : World) (ha : Sl w a xs) (hb : Sl w b ys) (hl : xs.length ≤ 1000000000) :
    Calls Try.prog 30 #[a, b] w fun x w' => DN w w' ∧ x = .returned (.bool (decide (xs = ys))) := by
  obtain ⟨r, hr⟩ : ∃ r, r = decide (xs = ys) := ⟨_, rfl⟩
  rw [← hr]
  have HR := hid hr
  clear hr
  obtain ⟨ao, acap, rfl, hac, hax⟩ := ha
  obtain ⟨bo, bcap, rfl, hbc, hbx⟩ := hb
  by_cases hlen : xs.length = ys.length
  · have hlen' : ((xs.length : Int) == (ys.length : Int)) = true := by simp [hlen]
    have Hl := hid hlen
    have HA := hid hax
    have HB := hid hbx
    have hbl : ys.length ≤ 1000000000 := by omega
    have hab : (xs.length : Int) ≤ (ys.length : Int) := by omega
    have hba : (ys.length : Int) ≤ (xs.length : Int) := by omega
    clear hlen hax hbx hlen'
    go_enter Try.func30, Try.ntmps30
    go_wp2
    go_loopw [5] (fun i wr => ∃ (k : Nat), k ≤ xs.length ∧ i = .int .i64 k ∧ DN w wr ∧ Hid (xs.take k = ys.take k)) (fun i _ => xs.length - (intOf i).toNat)
    case atStart => exact ⟨0, Nat.zero_le _, rfl, DN.refl w, hid (by simp)⟩
    case round =>
      obtain ⟨k, hk, rfl, hdn, hpre⟩ := hrel
      by_cases hlt : k < xs.length
      · obtain ⟨ab, aoff, rfl, haj⟩ := HA.out (by intro e; subst e; simp at hlt)
        obtain ⟨bb, boff, rfl, hbj⟩ := HB.out (fun e => by rw [e, List.length_nil] at hab; omega)
        have hlt2 : k < ys.length := by omega
        have ca := (hdn.cell _).trans (haj k xs[k] (by simp [hlt]))
        have cb := (hdn.cell _).trans (hbj k ys[k] (by simp [hlt2]))
        have hst := take_eq_step xs ys k hlt hlt2 hpre.out
        obtain ⟨x, hx⟩ : ∃ x, x = xs[k] := ⟨_, rfl⟩
        obtain ⟨y, hy⟩ : ∃ y, y = ys[k] := ⟨_, rfl⟩
        rw [← hx] at ca hst
        rw [← hy] at cb hst
        have hne2 : x ≠ y → xs ≠ ys := by
          intro h e
          apply h
          rw [hx, hy]
          subst e
          rfl
        have HS : x = y → Hid (xs.take (k + 1) = ys.take (k + 1)) := fun h => hid (hst.2 h)
        have HN := hid hne2
        have i1 : (0 : Int) ≤ (k : Int) := by omega
        have i2 : (k : Int) < (xs.length : Int) := by omega
        have i3 : (k : Int) < (ys.length : Int) := by omega
        clear hx hy hst hne2 haj hbj
        by_cases hxy : x = y
        · have HT := HS hxy
          subst hxy
          clear HS
          go_wp2
          go_quiet (fail)
          go_wp2
          go_roundw
          case rel => first | exact ⟨k + 1, by omega, by go_num, hdn.more _, HT⟩ | ((repeat apply Exists.intro); exact ⟨⟨k + 1, by omega, by go_num, hdn.more _, HT⟩, rfl⟩)
          case measure => simp [intOf]; omega
        · have hxy2 : (x == y) = false := by simpa using hxy
          clear HS
          have Hr := hid (show decide (xs = ys) = false by simpa using HN.out hxy)
          go_wp2
          go_quiet (fail)
          go_wp2
          go_ret
          exact ⟨hdn.more _, by rw [HR.out, Hr.out]; rfl⟩
      · have Hr : Hid (decide (xs = ys) = true) := by
          have := hpre.out
          rw [List.take_of_length_le (by omega), List.take_of_length_le (by omega)] at this
          exact hid (by simpa using this)
        go_wp2
        go_ret
        exact ⟨hdn, by rw [HR.out, Hr.out]; rfl⟩
  · have Hr : Hid (decide (xs = ys) = false) := hid (by
      simp
      intro e; subst e; exact hlen rfl)
    have hne : ((xs.length : Int) == (ys.length : Int)) = false := by simp; omega
    clear hlen hax hbx
    go_enter Try.func30, Try.ntmps30
    go_wp2
    go_ret
    exact ⟨DN.refl _, by rw [HR.out, Hr.out]; rfl⟩

end Go.Proofs.Ytiammlngbejhkaa
