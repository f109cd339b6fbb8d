import Derived.Test.YtdnlfacfleemeaaK05
import Derived.Test.YtdnlfacfleemeaaK06
import Derived.Deep.Cut
namespace Go.Proofs.Ytdnlfacfleemeaa
open Go.RowKit Go.Lib

/-- What Decode makes of bytes: the value, the error. -/
def decZ (bs : List Int) : (Int × Int × List Int) × Int :=
  if (takeZ 0 1 bs 0 0).1.1 = 0 then ((0, 0, []), endZ bs.length (takeZ 0 1 bs 0 0).2.1 (takeZ 0 1 bs 0 0).2.2)
  else if (takeZ 0 1 bs 0 0).1.1 = 1 then ((1, unfoldZ (takeZ 2 0 bs (takeZ 0 1 bs 0 0).2.1 (takeZ 0 1 bs 0 0).2.2).1.1, []), endZ bs.length (takeZ 2 0 bs (takeZ 0 1 bs 0 0).2.1 (takeZ 0 1 bs 0 0).2.2).2.1 (takeZ 2 0 bs (takeZ 0 1 bs 0 0).2.1 (takeZ 0 1 bs 0 0).2.2).2.2)
  else if (takeZ 0 1 bs 0 0).1.1 = 2 then ((2, 0, (takeZ 3 256 bs (takeZ 0 1 bs 0 0).2.1 (takeZ 0 1 bs 0 0).2.2).1.2), endZ bs.length (takeZ 3 256 bs (takeZ 0 1 bs 0 0).2.1 (takeZ 0 1 bs 0 0).2.2).2.1 (takeZ 3 256 bs (takeZ 0 1 bs 0 0).2.1 (takeZ 0 1 bs 0 0).2.2).2.2)
  else ((0, 0, []), 3)

/-- The same as what Decode answers. -/
def decV (d : (Int × Int × List Int) × Int) : Value := if d.2 = 0 then .tuple #[vl d.1.1 d.1.2.1 (mkStr d.1.2.2), .int .i64 0] else .tuple #[vl 0 0 emp, .int .i64 d.2]

theorem mkStr_nil : mkStr [] = emp := rfl

theorem Rd.kept {w w' : World} {p : Nat} {g : Option Nat} {bs : List Int} {at' : Nat} {e : Int} {S : Nat → Prop} (h : Rd w p g bs at' e) (hk : Kept S w w') (hp : ¬ S p) (hg : ∀ k, g = some k → ¬ S k) : Rd w' p g bs at' e := by
  obtain ⟨v, h1, rfl, h3, h4⟩ := h
  exact ⟨v, (hk.block p (lt_of h1) hp).trans h1, rfl, h3.kept hk hg, h4⟩

/-- Within Decode: the answer's block, the value's block, the Reader. -/
structure Dst (w w' : World) (p q : Nat) (g : Option Nat) (bs : List Int) (a b c : Value) (at' : Nat) (e : Int) : Prop where
  hr : w'.heap[w.heap.size]? = some (vo 0 0 emp)
  hv : w'.heap[q]? = some (.cells #[a, b, c] 50 (0, 0))
  rd : Rd w' p g bs at' e
  hb : Below w.heap.size w w'
  hp : w.heap.size < p
  hq : w.heap.size < q
  hn : q ≠ p
  hg : g ≠ some q

theorem Dst.step {w w' w2 : World} {p q : Nat} {g : Option Nat} {bs : List Int} {a b c : Value} {at' at2 : Nat} {e e2 : Int} (h : Dst w w' p q g bs a b c at' e) (hs : RdStep p g w' w2 bs at2 e2) : Dst w w2 p q g bs a b c at2 e2 := by
  obtain ⟨h1, hk⟩ := hs
  refine ⟨(hk.block _ (lt_of h.hr) (by have := h.hp; omega)).trans h.hr, (hk.block _ (lt_of h.hv) h.hn).trans h.hv, h1, h.hb.trans (hk.below h.hb.size ?_), h.hp, h.hq, h.hn, h.hg⟩
  intro k hk2 e
  have := h.hp
  omega

theorem Dst.set1 {w w' : World} {p q : Nat} {g : Option Nat} {bs : List Int} {a b c : Value} {at' : Nat} {e : Int} (h : Dst w w' p q g bs a b c at' e) (x : Value) : Dst w (w'.setCell ⟨q, 1, none⟩ x) p q g bs a x c at' e := by
  have hk : Kept (fun k => k = q) w' (w'.setCell ⟨q, 1, none⟩ x) := Kept.setCell (p := ⟨q, 1, none⟩) (Kept.refl (fun k => k = q) w') (fun _ => rfl) _
  refine ⟨(hk.block _ (lt_of h.hr) (by have := h.hq; omega)).trans h.hr, heap3_set1 h.hv, h.rd.kept hk (fun e => h.hn e.symm) (fun k hk e => h.hg (by rw [hk, e])), h.hb.trans (hk.below h.hb.size ?_), h.hp, h.hq, h.hn, h.hg⟩
  intro k hk2 e
  have := h.hq
  omega

theorem Dst.set2 {w w' : World} {p q : Nat} {g : Option Nat} {bs : List Int} {a b c : Value} {at' : Nat} {e : Int} (h : Dst w w' p q g bs a b c at' e) (x : Value) : Dst w (w'.setCell ⟨q, 2, none⟩ x) p q g bs a b x at' e := by
  have hk : Kept (fun k => k = q) w' (w'.setCell ⟨q, 2, none⟩ x) := Kept.setCell (p := ⟨q, 2, none⟩) (Kept.refl (fun k => k = q) w') (fun _ => rfl) _
  refine ⟨(hk.block _ (lt_of h.hr) (by have := h.hq; omega)).trans h.hr, heap3_set2 h.hv, h.rd.kept hk (fun e => h.hn e.symm) (fun k hk e => h.hg (by rw [hk, e])), h.hb.trans (hk.below h.hb.size ?_), h.hp, h.hq, h.hn, h.hg⟩
  intro k hk2 e
  have := h.hq
  omega

theorem Dst.drewN {w w' : World} {p q : Nat} {g : Option Nat} {bs : List Int} {a b c : Value} {at' : Nat} {e : Int} (h : Dst w w' p q g bs a b c at' e) (m : Nat) : Dst w (w'.drewN m) p q g bs a b c at' e :=
  ⟨h.hr, h.hv, h.rd.drewN m, ⟨h.hb.os, h.hb.tape, h.hb.output, h.hb.size, h.hb.block⟩, h.hp, h.hq, h.hn, h.hg⟩

/-- Behind the Byte, the value's block laid. -/
theorem Dst.mk' {w w1 w2 : World} {p : Nat} {bs : List Int} {at' : Nat} {e : Int} (hp : (w.alloc (vo 0 0 emp)).heap.size < p) (_hr : Rd w1 p (some (w.alloc (vo 0 0 emp)).heap.size) bs 0 0) (hb : Below (w.alloc (vo 0 0 emp)).heap.size (w.alloc (vo 0 0 emp)) w1) (hs : RdStep p (some (w.alloc (vo 0 0 emp)).heap.size) w1 w2 bs at' e) (a b c : Value) :
    Dst w (w2.alloc (.cells #[a, b, c] 50)) p w2.heap.size (some (w.alloc (vo 0 0 emp)).heap.size) bs a b c at' e := by
  obtain ⟨h1, hk⟩ := hs
  have hp' : w.heap.size + 1 < p := by simpa using hp
  have hpl : p < w2.heap.size := by
    obtain ⟨v, hv, _⟩ := h1
    exact lt_of hv
  have r1 := blk_of hb (heap_alloc_new w (vo 0 0 emp)) (by simp)
  have r2 : w2.heap[w.heap.size]? = some (vo 0 0 emp) := (hk.block _ (lt_of r1) (by omega)).trans r1
  have hB2 : Below w.heap.size w w2 := by
    refine (below_on (below1 w _) hb).trans (hk.below (below_on (below1 w _) hb).size ?_)
    intro k hk2 e
    omega
  have hal : Below w2.heap.size w2 (w2.alloc (.cells #[a, b, c] 50)) := below1 w2 _
  refine ⟨blk_of hal r2 (lt_of r2), heap_alloc_new w2 _, h1.kept (Kept.ofBelow hal) (fun h => h) (fun _ _ h => h), hB2.alloc hB2.size _, by omega, by omega, by omega, ?_⟩
  simp
  omega

set_option maxRecDepth 100000 in
set_option maxHeartbeats 1600000 in
theorem decode_int (v : Value) (bs : List Int) (w : World) (h : Sl w v bs) (ho : Oct bs) (hl : bs.length ≤ 1000000000) (a1 : Nat) (e1 : Int) (xx : List Int) (hk : takeZ 0 1 bs 0 0 = ((1, xx), a1, e1)) (u : Int) (x2 : List Int) (a2 : Nat) (e2 : Int) (hk2 : takeZ 2 0 bs a1 e1 = ((u, x2), a2, e2)) (en : Int) (hen : endZ bs.length a2 e2 = en) (res : Value) (hz : res = if en = 0 then .tuple #[vl 1 (unfoldZ u) emp, .int .i64 0] else .tuple #[vl 0 0 emp, .int .i64 en]) :
    Calls Try.prog 72 #[v] w fun e w' => e = .returned res ∧ Below w.heap.size w w' := by
  have HS := hid h
  have HO := hid ho
  have HK := hid hk
  have HK2 := hid hk2
  have HE := hid hen
  have HZ := hid hz
  clear h ho hk hen hz hk2
  by_cases h0 : en = 0
  · subst h0
    go_enter Try.func72, Try.ntmps72
    go_wp2_with (first
      | (go_at_call 33
         refine (read_any v bs _ (HS.out.below (below1 w _)) HO.out hl).mono ?_
         rintro e w1 ⟨p, rfl, hp1, hr1, hb1⟩
         have H1 := hid (And.intro hp1 (And.intro hr1 hb1))
         clear hp1 hr1 hb1)
      | (go_at_call 69
         refine (rbyte_any p _ bs 0 0 w1 H1.out.2.1).mono ?_
         rintro e w2 ⟨hs2, rfl⟩
         rw [HK.out] at hs2 ⊢
         dsimp only
         have H2 := hid (fun a b c => Dst.mk' H1.out.1 H1.out.2.1 H1.out.2.2 hs2 a b c)
         clear hs2)
      | (go_at_call 82
         refine (rint_any p _ bs a1 e1 _ (H2.out (.int .i64 1) (.int .i64 0) (.string emp)).rd).mono ?_
         rintro e w3 ⟨hs3, rfl⟩
         rw [HK2.out] at hs3 ⊢
         dsimp only
         have H3 := hid ((H2.out (.int .i64 1) (.int .i64 0) (.string emp)).step hs3)
         obtain ⟨c0, c1, c2, ff⟩ := vfacts H3.out.hv
         clear hs3)
      | (go_at_call 37
         refine (end_any p _ bs a2 e2 _ (H3.out.set1 (.int .i64 (unfoldZ u))).rd).mono ?_
         rintro e w4 ⟨⟨nq, e4⟩, rfl⟩
         rw [HE.out]
         have H4 := hid ((H3.out.set1 (.int .i64 (unfoldZ u))).drewN nq)
         rw [← e4] at H4
         obtain ⟨c0, c1, c2, ff⟩ := vfacts H4.out.hv
         obtain ⟨d0, d1, d2, fg⟩ := vfacts H4.out.hr
         clear e4))
    refine bodyPost_ret (ret_agg2 Try.results72 rfl (set3 H4.out.hr _ _ _)) rfl ?_
    exact ⟨by rw [HZ.out]; rfl, Below.set3 H4.out.hb (Nat.le_refl _) _ _ _⟩
  · have hb0 : (en == 0) = false := by simpa using h0
    go_enter Try.func72, Try.ntmps72
    go_wp2_with (first
      | (go_at_call 33
         refine (read_any v bs _ (HS.out.below (below1 w _)) HO.out hl).mono ?_
         rintro e w1 ⟨p, rfl, hp1, hr1, hb1⟩
         have H1 := hid (And.intro hp1 (And.intro hr1 hb1))
         clear hp1 hr1 hb1)
      | (go_at_call 69
         refine (rbyte_any p _ bs 0 0 w1 H1.out.2.1).mono ?_
         rintro e w2 ⟨hs2, rfl⟩
         rw [HK.out] at hs2 ⊢
         dsimp only
         have H2 := hid (fun a b c => Dst.mk' H1.out.1 H1.out.2.1 H1.out.2.2 hs2 a b c)
         clear hs2)
      | (go_at_call 82
         refine (rint_any p _ bs a1 e1 _ (H2.out (.int .i64 1) (.int .i64 0) (.string emp)).rd).mono ?_
         rintro e w3 ⟨hs3, rfl⟩
         rw [HK2.out] at hs3 ⊢
         dsimp only
         have H3 := hid ((H2.out (.int .i64 1) (.int .i64 0) (.string emp)).step hs3)
         obtain ⟨c0, c1, c2, ff⟩ := vfacts H3.out.hv
         clear hs3)
      | (go_at_call 37
         refine (end_any p _ bs a2 e2 _ (H3.out.set1 (.int .i64 (unfoldZ u))).rd).mono ?_
         rintro e w4 ⟨⟨nq, e4⟩, rfl⟩
         rw [HE.out]
         have H4 := hid ((H3.out.set1 (.int .i64 (unfoldZ u))).drewN nq)
         rw [← e4] at H4
         obtain ⟨c0, c1, c2, ff⟩ := vfacts H4.out.hv
         obtain ⟨d0, d1, d2, fg⟩ := vfacts H4.out.hr
         clear e4))
    refine bodyPost_ret (ret_agg2 Try.results72 rfl (set3 H4.out.hr _ _ _)) rfl ?_
    exact ⟨by rw [HZ.out]; rw [if_neg h0]; rfl, Below.set3 H4.out.hb (Nat.le_refl _) _ _ _⟩

set_option maxRecDepth 100000 in
set_option maxHeartbeats 1600000 in
theorem decode_text (v : Value) (bs : List Int) (w : World) (h : Sl w v bs) (ho : Oct bs) (hl : bs.length ≤ 1000000000) (a1 : Nat) (e1 : Int) (xx : List Int) (hk : takeZ 0 1 bs 0 0 = ((2, xx), a1, e1)) (u : Int) (x2 : List Int) (a2 : Nat) (e2 : Int) (hk2 : takeZ 3 256 bs a1 e1 = ((u, x2), a2, e2)) (en : Int) (hen : endZ bs.length a2 e2 = en) (res : Value) (hz : res = if en = 0 then .tuple #[vl 2 0 (mkStr x2), .int .i64 0] else .tuple #[vl 0 0 emp, .int .i64 en]) :
    Calls Try.prog 72 #[v] w fun e w' => e = .returned res ∧ Below w.heap.size w w' := by
  have HS := hid h
  have HO := hid ho
  have HK := hid hk
  have HK2 := hid hk2
  have HE := hid hen
  have HZ := hid hz
  clear h ho hk hen hz hk2
  by_cases h0 : en = 0
  · subst h0
    go_enter Try.func72, Try.ntmps72
    go_wp2_with (first
      | (go_at_call 33
         refine (read_any v bs _ (HS.out.below (below1 w _)) HO.out hl).mono ?_
         rintro e w1 ⟨p, rfl, hp1, hr1, hb1⟩
         have H1 := hid (And.intro hp1 (And.intro hr1 hb1))
         clear hp1 hr1 hb1)
      | (go_at_call 69
         refine (rbyte_any p _ bs 0 0 w1 H1.out.2.1).mono ?_
         rintro e w2 ⟨hs2, rfl⟩
         rw [HK.out] at hs2 ⊢
         dsimp only
         have H2 := hid (fun a b c => Dst.mk' H1.out.1 H1.out.2.1 H1.out.2.2 hs2 a b c)
         clear hs2)
      | (go_at_call 71
         refine (rtext_any p _ bs a1 e1 256 _ (H2.out (.int .i64 2) (.int .i64 0) (.string emp)).rd (by omega) (by omega)).mono ?_
         rintro e w3 ⟨hs3, rfl⟩
         rw [HK2.out] at hs3 ⊢
         dsimp only
         have H3 := hid ((H2.out (.int .i64 2) (.int .i64 0) (.string emp)).step hs3)
         obtain ⟨c0, c1, c2, ff⟩ := vfacts H3.out.hv
         clear hs3)
      | (go_at_call 37
         refine (end_any p _ bs a2 e2 _ (H3.out.set2 (.string (mkStr x2))).rd).mono ?_
         rintro e w4 ⟨⟨nq, e4⟩, rfl⟩
         rw [HE.out]
         have H4 := hid ((H3.out.set2 (.string (mkStr x2))).drewN nq)
         rw [← e4] at H4
         obtain ⟨c0, c1, c2, ff⟩ := vfacts H4.out.hv
         obtain ⟨d0, d1, d2, fg⟩ := vfacts H4.out.hr
         clear e4))
    refine bodyPost_ret (ret_agg2 Try.results72 rfl (set3 H4.out.hr _ _ _)) rfl ?_
    exact ⟨by rw [HZ.out]; rfl, Below.set3 H4.out.hb (Nat.le_refl _) _ _ _⟩
  · have hb0 : (en == 0) = false := by simpa using h0
    go_enter Try.func72, Try.ntmps72
    go_wp2_with (first
      | (go_at_call 33
         refine (read_any v bs _ (HS.out.below (below1 w _)) HO.out hl).mono ?_
         rintro e w1 ⟨p, rfl, hp1, hr1, hb1⟩
         have H1 := hid (And.intro hp1 (And.intro hr1 hb1))
         clear hp1 hr1 hb1)
      | (go_at_call 69
         refine (rbyte_any p _ bs 0 0 w1 H1.out.2.1).mono ?_
         rintro e w2 ⟨hs2, rfl⟩
         rw [HK.out] at hs2 ⊢
         dsimp only
         have H2 := hid (fun a b c => Dst.mk' H1.out.1 H1.out.2.1 H1.out.2.2 hs2 a b c)
         clear hs2)
      | (go_at_call 71
         refine (rtext_any p _ bs a1 e1 256 _ (H2.out (.int .i64 2) (.int .i64 0) (.string emp)).rd (by omega) (by omega)).mono ?_
         rintro e w3 ⟨hs3, rfl⟩
         rw [HK2.out] at hs3 ⊢
         dsimp only
         have H3 := hid ((H2.out (.int .i64 2) (.int .i64 0) (.string emp)).step hs3)
         obtain ⟨c0, c1, c2, ff⟩ := vfacts H3.out.hv
         clear hs3)
      | (go_at_call 37
         refine (end_any p _ bs a2 e2 _ (H3.out.set2 (.string (mkStr x2))).rd).mono ?_
         rintro e w4 ⟨⟨nq, e4⟩, rfl⟩
         rw [HE.out]
         have H4 := hid ((H3.out.set2 (.string (mkStr x2))).drewN nq)
         rw [← e4] at H4
         obtain ⟨c0, c1, c2, ff⟩ := vfacts H4.out.hv
         obtain ⟨d0, d1, d2, fg⟩ := vfacts H4.out.hr
         clear e4))
    refine bodyPost_ret (ret_agg2 Try.results72 rfl (set3 H4.out.hr _ _ _)) rfl ?_
    exact ⟨by rw [HZ.out]; rw [if_neg h0]; rfl, Below.set3 H4.out.hb (Nat.le_refl _) _ _ _⟩

set_option maxRecDepth 100000 in
set_option maxHeartbeats 1600000 in
theorem decode_none (v : Value) (bs : List Int) (w : World) (h : Sl w v bs) (ho : Oct bs) (hl : bs.length ≤ 1000000000) (a1 : Nat) (e1 : Int) (xx : List Int) (hk : takeZ 0 1 bs 0 0 = ((0, xx), a1, e1)) (en : Int) (hen : endZ bs.length a1 e1 = en) (res : Value) (hz : res = if en = 0 then .tuple #[vl 0 0 emp, .int .i64 0] else .tuple #[vl 0 0 emp, .int .i64 en]) :
    Calls Try.prog 72 #[v] w fun e w' => e = .returned res ∧ Below w.heap.size w w' := by
  have HS := hid h
  have HO := hid ho
  have HK := hid hk
  have HE := hid hen
  have HZ := hid hz
  clear h ho hk hen hz
  by_cases h0 : en = 0
  · subst h0
    go_enter Try.func72, Try.ntmps72
    go_wp2_with (first
      | (go_at_call 33
         refine (read_any v bs _ (HS.out.below (below1 w _)) HO.out hl).mono ?_
         rintro e w1 ⟨p, rfl, hp1, hr1, hb1⟩
         have H1 := hid (And.intro hp1 (And.intro hr1 hb1))
         clear hp1 hr1 hb1)
      | (go_at_call 69
         refine (rbyte_any p _ bs 0 0 w1 H1.out.2.1).mono ?_
         rintro e w2 ⟨hs2, rfl⟩
         rw [HK.out] at hs2 ⊢
         dsimp only
         have H2 := hid (fun a b c => Dst.mk' H1.out.1 H1.out.2.1 H1.out.2.2 hs2 a b c)
         clear hs2)
      | (go_at_call 37
         refine (end_any p _ bs a1 e1 _ (H2.out (.int .i64 0) (.int .i64 0) (.string emp)).rd).mono ?_
         rintro e w4 ⟨⟨nq, e4⟩, rfl⟩
         rw [HE.out]
         have H4 := hid ((H2.out (.int .i64 0) (.int .i64 0) (.string emp)).drewN nq)
         rw [← e4] at H4
         obtain ⟨c0, c1, c2, ff⟩ := vfacts H4.out.hv
         obtain ⟨d0, d1, d2, fg⟩ := vfacts H4.out.hr
         clear e4))
    refine bodyPost_ret (ret_agg2 Try.results72 rfl (set3 H4.out.hr _ _ _)) rfl ?_
    exact ⟨by rw [HZ.out]; rfl, Below.set3 H4.out.hb (Nat.le_refl _) _ _ _⟩
  · have hb0 : (en == 0) = false := by simpa using h0
    go_enter Try.func72, Try.ntmps72
    go_wp2_with (first
      | (go_at_call 33
         refine (read_any v bs _ (HS.out.below (below1 w _)) HO.out hl).mono ?_
         rintro e w1 ⟨p, rfl, hp1, hr1, hb1⟩
         have H1 := hid (And.intro hp1 (And.intro hr1 hb1))
         clear hp1 hr1 hb1)
      | (go_at_call 69
         refine (rbyte_any p _ bs 0 0 w1 H1.out.2.1).mono ?_
         rintro e w2 ⟨hs2, rfl⟩
         rw [HK.out] at hs2 ⊢
         dsimp only
         have H2 := hid (fun a b c => Dst.mk' H1.out.1 H1.out.2.1 H1.out.2.2 hs2 a b c)
         clear hs2)
      | (go_at_call 37
         refine (end_any p _ bs a1 e1 _ (H2.out (.int .i64 0) (.int .i64 0) (.string emp)).rd).mono ?_
         rintro e w4 ⟨⟨nq, e4⟩, rfl⟩
         rw [HE.out]
         have H4 := hid ((H2.out (.int .i64 0) (.int .i64 0) (.string emp)).drewN nq)
         rw [← e4] at H4
         obtain ⟨c0, c1, c2, ff⟩ := vfacts H4.out.hv
         obtain ⟨d0, d1, d2, fg⟩ := vfacts H4.out.hr
         clear e4))
    refine bodyPost_ret (ret_agg2 Try.results72 rfl (set3 H4.out.hr _ _ _)) rfl ?_
    exact ⟨by rw [HZ.out]; rw [if_neg h0]; rfl, Below.set3 H4.out.hb (Nat.le_refl _) _ _ _⟩

theorem below_unalloc {w w2 : World} {o : Obj} (h : Below w.heap.size w (w2.alloc o)) (hs : w.heap.size ≤ w2.heap.size) : Below w.heap.size w w2 :=
  ⟨h.os, h.tape, h.output, hs, fun k hk => (Below.heap_alloc _ _ _ (by omega)).symm.trans (h.block k hk)⟩

set_option maxRecDepth 100000 in
set_option maxHeartbeats 1600000 in
theorem decode_else (v : Value) (bs : List Int) (w : World) (h : Sl w v bs) (ho : Oct bs) (hl : bs.length ≤ 1000000000) (kk : Int) (a1 : Nat) (e1 : Int) (xx : List Int) (hk : takeZ 0 1 bs 0 0 = ((kk, xx), a1, e1)) (k0 : 3 ≤ kk) (k1 : kk < 256) :
    Calls Try.prog 72 #[v] w fun e w' => e = .returned (.tuple #[vl 0 0 emp, .int .i64 3]) ∧ Below w.heap.size w w' := by
  have HS := hid h
  have HO := hid ho
  have HK := hid hk
  clear h ho hk
  have b0 : (kk == 0) = false := by simp; omega
  have b1 : (kk == 1) = false := by simp; omega
  have b2 : (kk == 2) = false := by simp; omega
  go_enter Try.func72, Try.ntmps72
  go_wp2_with (first
      | (go_at_call 33
         refine (read_any v bs _ (HS.out.below (below1 w _)) HO.out hl).mono ?_
         rintro e w1 ⟨p, rfl, hp1, hr1, hb1⟩
         have H1 := hid (And.intro hp1 (And.intro hr1 hb1))
         clear hp1 hr1 hb1)
      | (go_at_call 69
         refine (rbyte_any p _ bs 0 0 w1 H1.out.2.1).mono ?_
         rintro e w2 ⟨hs2, rfl⟩
         rw [HK.out] at hs2 ⊢
         dsimp only
         have H2 := hid (Dst.mk' H1.out.1 H1.out.2.1 H1.out.2.2 hs2 (.int .i64 kk) (.int .i64 0) (.string emp))
         have ql := H2.out.hq
         have R2 := hid ((Below.heap_alloc _ _ _ ql).symm.trans H2.out.hr)
         have HB2 := hid (below_unalloc H2.out.hb (Nat.le_of_lt ql))
         obtain ⟨d0, d1, d2, fg⟩ := vfacts ((Below.heap_alloc _ _ _ ql).symm.trans H2.out.hr)
         clear hs2))
  refine bodyPost_ret (ret_agg2 Try.results72 rfl ((Below.heap_alloc _ _ _ (by simpa [World.setCell] using ql)).trans (set3 R2.out _ _ _))) rfl ?_
  exact ⟨rfl, (Below.set3 HB2.out (Nat.le_refl _) _ _ _).alloc (by simpa [World.setCell] using Nat.le_of_lt ql) _⟩

theorem decode_any (v : Value) (bs : List Int) (w : World) (h : Sl w v bs) (ho : Oct bs) (hl : bs.length ≤ 1000000000) :
    Calls Try.prog 72 #[v] w fun e w' => e = .returned (decV (decZ bs)) ∧ Below w.heap.size w w' := by
  have hb := takeZ_bd 0 1 bs 0 0 ho
  obtain ⟨⟨⟨kk, xx⟩, a1, e1⟩, ht⟩ : ∃ t, takeZ 0 1 bs 0 0 = t := ⟨_, rfl⟩
  rw [ht] at hb
  have h0 : 0 ≤ kk := hb.1
  have h1 : kk < 256 := hb.2.2.2 rfl rfl
  by_cases k0 : kk = 0
  · subst k0
    refine decode_none v bs w h ho hl a1 e1 xx ht _ rfl _ ?_
    simp [decV, decZ, ht, mkStr_nil]
  · by_cases k1 : kk = 1
    · subst k1
      obtain ⟨⟨⟨u, x2⟩, a2, e2⟩, ht2⟩ : ∃ t, takeZ 2 0 bs a1 e1 = t := ⟨_, rfl⟩
      refine decode_int v bs w h ho hl a1 e1 xx ht u x2 a2 e2 ht2 _ rfl _ ?_
      simp [decV, decZ, ht, ht2, mkStr_nil]
    · by_cases k2 : kk = 2
      · subst k2
        obtain ⟨⟨⟨u, x2⟩, a2, e2⟩, ht2⟩ : ∃ t, takeZ 3 256 bs a1 e1 = t := ⟨_, rfl⟩
        refine decode_text v bs w h ho hl a1 e1 xx ht u x2 a2 e2 ht2 _ rfl _ ?_
        simp [decV, decZ, ht, ht2]
      · have hd : decV (decZ bs) = .tuple #[vl 0 0 emp, .int .i64 3] := by simp [decV, decZ, ht, k0, k1, k2]
        rw [hd]
        exact decode_else v bs w h ho hl kk a1 e1 xx ht (by omega) h1

end Go.Proofs.Ytdnlfacfleemeaa

namespace Go.Proofs.Ytdnlfacfleemeaa
open Go.RowKit

/-- A Reader of the document, as a value. -/
def rrV (v : Value) (at' e st : Int) : Value := .agg #[v, .int .i64 at', .int .i64 e, .int .i64 st]

/-- What a taking call of the document leaves: the answer 'res', and the Reader. -/
def RRPost (w : World) (v : Value) (z : (Int × List Int) × Nat × Int) (res : Value) (x : Ending) (w' : World) : Prop :=
  ∃ st2 : Int, x = .returned (.tuple #[res, .agg #[v, .int .i64 z.2.1, .int .i64 z.2.2, .int .i64 st2]]) ∧ (z.2.2 ≠ 0 → st2 = z.2.1) ∧ Below w.heap.size w w'

theorem cell_of_four {w : World} {p : Nat} {a b c d : Value} {t : TypeId} (h : w.heap[p]? = some (.cells #[a, b, c, d] t (0, 0))) : w.cell? ⟨p, 0, none⟩ = some a ∧ w.cell? ⟨p, 1, none⟩ = some b ∧ w.cell? ⟨p, 2, none⟩ = some c ∧ w.cell? ⟨p, 3, none⟩ = some d := by
  refine ⟨?_, ?_, ?_, ?_⟩
  · rw [cell_of_row w p 0 _ t (0, 0) h]; rfl
  · rw [cell_of_row w p 1 _ t (0, 0) h]; rfl
  · rw [cell_of_row w p 2 _ t (0, 0) h]; rfl
  · rw [cell_of_row w p 3 _ t (0, 0) h]; rfl

theorem new2r (w : World) (X Y : Obj) : ((w.alloc X).alloc Y).heap[w.heap.size + 1]? = some Y ∧ ((w.alloc X).alloc Y).heap[w.heap.size]? = some X := by
  constructor
  · have := heap_alloc_new (w.alloc X) Y
    simpa using this
  · rw [Below.heap_alloc _ _ _ (by simp)]
    exact heap_alloc_new w X

theorem takeZ_stop (f n : Int) (bs : List Int) (at' : Nat) (e : Int) (he : e ≠ 0) : takeZ f n bs at' e = ((0, []), at', e) := by
  unfold takeZ; rw [if_neg he]

end Go.Proofs.Ytdnlfacfleemeaa

namespace Go.Proofs.Ytdnlfacfleemeaa
open Go.RowKit

theorem below2r (w : World) (X Y : Obj) : Below w.heap.size w ((w.alloc X).alloc Y) := ((Below.refl _ _).alloc (Nat.le_refl _) _).alloc (by simp) _

theorem leZ_drop (L : List Int) (j : Nat) (h : j < L.length) : leZ (L.drop j) = L[j] + 256 * leZ (L.drop (j + 1)) := by
  rw [List.drop_eq_getElem_cons h, leZ]

theorem pow256_7 (k : Nat) (h : k ≤ 7) : (256 : Int) ^ k ≤ 72057594037927936 := by
  match k, h with
  | 0, _ | 1, _ | 2, _ | 3, _ | 4, _ | 5, _ | 6, _ | 7, _ => decide

end Go.Proofs.Ytdnlfacfleemeaa

namespace Go.Proofs.Ytdnlfacfleemeaa
open Go.RowKit

/-- What the document's 'row' answers. -/
def rrowZ (most : Nat) (last : Int) (bs : List Int) (at' : Nat) : Int × Int × Int :=
  ((rowGo most last (bs.drop at') 0 0).1, if (rowGo most last (bs.drop at') 0 0).2.2 = 0 then (at' : Int) + (rowGo most last (bs.drop at') 0 0).2.1 else 0, (rowGo most last (bs.drop at') 0 0).2.2)

def tup3i (x : Int × Int × Int) : Value := .tuple #[.int .u64 x.1, .int .i64 x.2.1, .int .i64 x.2.2]

theorem pow128_8 (k : Nat) (h : k ≤ 8) : (128 : Int) ^ k ≤ 72057594037927936 := by
  match k, h with
  | 0, _ | 1, _ | 2, _ | 3, _ | 4, _ | 5, _ | 6, _ | 7, _ | 8, _ => decide

theorem seven_fit (u c : Int) (k : Nat) (hk : k ≤ 9) (hu0 : 0 ≤ u) (hu : u < 128 ^ k) (hc0 : 0 ≤ c) (hc : c < 128) (h9 : k = 9 → c ≤ 1) :
    0 ≤ c * 128 ^ k ∧ c * 128 ^ k < 18446744073709551616 ∧ u + c * 128 ^ k < 18446744073709551616 := by
  have hp : (0 : Int) < 128 ^ k := Int.pow_pos (by omega)
  have hn : 0 ≤ c * 128 ^ k := Int.mul_nonneg hc0 (by omega)
  by_cases h : k = 9
  · subst h
    have := h9 rfl
    have h1 : c * 128 ^ 9 ≤ 1 * 128 ^ 9 := Int.mul_le_mul_of_nonneg_right this (by omega)
    have e : (128 : Int) ^ 9 = 9223372036854775808 := by decide
    omega
  · have h8 := pow128_8 k (by omega)
    have hb : c * 128 ^ k ≤ 127 * 128 ^ k := Int.mul_le_mul_of_nonneg_right (by omega) (by omega)
    omega

theorem below_drewN' (w : World) (n B : Nat) : Below B w (w.drewN n) := ⟨rfl, rfl, rfl, Nat.le_refl _, fun _ _ => rfl⟩

theorem rowGo_at' (last : Nat) (top : Int) (bs : List Int) (at' j : Nat) (u : Int) (h : at' + j < bs.length) :
    rowGo last top (bs.drop (at' + j)) j u = if j + 1 = last ∧ top < bs[at' + j] then (0, 0, 15)
    else if 128 ≤ bs[at' + j] then rowGo last top (bs.drop (at' + (j + 1))) (j + 1) (u + bs[at' + j] % 128 * 128 ^ j)
    else if 0 < j ∧ bs[at' + j] = 0 then (0, 0, 3)
    else (u + bs[at' + j] % 128 * 128 ^ j, (j : Int) + 1, 0) := by
  rw [List.drop_eq_getElem_cons h, rowGo]
  rfl

end Go.Proofs.Ytdnlfacfleemeaa

namespace Go.Proofs.Ytdnlfacfleemeaa
open Go.RowKit

end Go.Proofs.Ytdnlfacfleemeaa

namespace Go.Proofs.Ytdnlfacfleemeaa
open Go.RowKit

end Go.Proofs.Ytdnlfacfleemeaa

namespace Go.Proofs.Ytdnlfacfleemeaa
open Go.RowKit

end Go.Proofs.Ytdnlfacfleemeaa

namespace Go.Proofs.Ytdnlfacfleemeaa
open Go.RowKit

end Go.Proofs.Ytdnlfacfleemeaa

namespace Go.Proofs.Ytdnlfacfleemeaa
open Go.RowKit Go.Lib

theorem vfacts4 {w : World} {r : Nat} {a b c d : Value} {t : TypeId} (h : w.heap[r]? = some (.cells #[a, b, c, d] t (0, 0))) :
    w.cell? ⟨r, 0, none⟩ = some a ∧ w.cell? ⟨r, 1, none⟩ = some b ∧ w.cell? ⟨r, 2, none⟩ = some c ∧ w.cell? ⟨r, 3, none⟩ = some d ∧ ∀ o, w.frozen? ⟨r, o, none⟩ = false := by
  refine ⟨?_, ?_, ?_, ?_, fun o => by simp [World.frozen?, h]⟩ <;> (rw [cell_of_row w _ _ _ _ _ h]; rfl)

theorem set4 {w : World} {r : Nat} {a b c d : Value} {t : TypeId} (h : w.heap[r]? = some (.cells #[a, b, c, d] t (0, 0))) (x y z u : Value) :
    ((((w.setCell ⟨r, 0, none⟩ x).setCell ⟨r, 1, none⟩ y).setCell ⟨r, 2, none⟩ z).setCell ⟨r, 3, none⟩ u).heap[r]? = some (.cells #[x, y, z, u] t (0, 0)) := by
  simp [World.setCell, Array.getElem?_modify, h]

/-- Within the document's Decode: the answer's block and the Reader's. -/
structure Rst (w W : World) (q : Nat) (a b c d : Value) : Prop where
  hr : W.heap[w.heap.size]? = some (vo 0 0 emp)
  hq : W.heap[q]? = some (.cells #[a, b, c, d] 85 (0, 0))
  hb : Below w.heap.size w W
  lt : w.heap.size < q

theorem Rst.below {w W W' : World} {q : Nat} {a b c d : Value} (h : Rst w W q a b c d) (hb : Below W.heap.size W W') : Rst w W' q a b c d :=
  ⟨blk_of hb h.hr (lt_of h.hr), blk_of hb h.hq (lt_of h.hq), below_on h.hb hb, h.lt⟩

theorem Rst.set {w W : World} {q : Nat} {a b c d : Value} (h : Rst w W q a b c d) (x y z u : Value) : Rst w ((((W.setCell ⟨q, 0, none⟩ x).setCell ⟨q, 1, none⟩ y).setCell ⟨q, 2, none⟩ z).setCell ⟨q, 3, none⟩ u) q x y z u := by
  have hk : Kept (fun k => k = q) W ((((W.setCell ⟨q, 0, none⟩ x).setCell ⟨q, 1, none⟩ y).setCell ⟨q, 2, none⟩ z).setCell ⟨q, 3, none⟩ u) :=
    ((((Kept.refl (fun k => k = q) W).setCell (p := ⟨q, 0, none⟩) (fun _ => rfl) _).setCell (p := ⟨q, 1, none⟩) (fun _ => rfl) _).setCell (p := ⟨q, 2, none⟩) (fun _ => rfl) _).setCell (p := ⟨q, 3, none⟩) (fun _ => rfl) _
  refine ⟨(hk.block _ (lt_of h.hr) (by have := h.lt; omega)).trans h.hr, set4 h.hq x y z u, h.hb.trans (hk.below h.hb.size ?_), h.lt⟩
  intro k h1 h2
  have := h.lt
  omega

theorem Rst.mk' {w w1 w2 : World} {a b c d : Value} (h1 : w1.heap[w.heap.size]? = some (vo 0 0 emp)) (h2 : Below w.heap.size w w1) (hb : Below (w1.alloc (.cells #[a, b, c, d] 85)).heap.size (w1.alloc (.cells #[a, b, c, d] 85)) w2) : Rst w w2 w1.heap.size a b c d :=
  Rst.below ⟨(Below.heap_alloc _ _ _ (lt_of h1)).trans h1, heap_alloc_new w1 _, h2.alloc h2.size _, lt_of h1⟩ hb

/-- And the value's block. -/
structure Rsv (w W : World) (q p : Nat) (a b c d x y z : Value) : Prop where
  st : Rst w W q a b c d
  hv : W.heap[p]? = some (.cells #[x, y, z] 50 (0, 0))
  lp : w.heap.size < p
  np : p ≠ q

theorem Rsv.below {w W W' : World} {q p : Nat} {a b c d x y z : Value} (h : Rsv w W q p a b c d x y z) (hb : Below W.heap.size W W') : Rsv w W' q p a b c d x y z :=
  ⟨h.st.below hb, blk_of hb h.hv (lt_of h.hv), h.lp, h.np⟩

theorem Rst.alloc {w W : World} {q : Nat} {a b c d : Value} (h : Rst w W q a b c d) (x y z : Value) : Rsv w (W.alloc (.cells #[x, y, z] 50)) q W.heap.size a b c d x y z :=
  ⟨h.below (below1 W _), heap_alloc_new W _, by have := lt_of h.hq; have := h.lt; omega, by have := lt_of h.hq; omega⟩

end Go.Proofs.Ytdnlfacfleemeaa

namespace Go.Proofs.Ytdnlfacfleemeaa
open Go.RowKit Go.Lib

theorem Rsv.setv1 {w W : World} {q p : Nat} {a b c d x y z : Value} (h : Rsv w W q p a b c d x y z) (u a' b' c' d' : Value) :
    Rsv w (((((W.setCell ⟨p, 1, none⟩ u).setCell ⟨q, 0, none⟩ a').setCell ⟨q, 1, none⟩ b').setCell ⟨q, 2, none⟩ c').setCell ⟨q, 3, none⟩ d') q p a' b' c' d' x u z := by
  have k1 : Kept (fun k => k = p) W (W.setCell ⟨p, 1, none⟩ u) := Kept.setCell (p := ⟨p, 1, none⟩) (Kept.refl (fun k => k = p) W) (fun _ => rfl) _
  have s1 : Rst w (W.setCell ⟨p, 1, none⟩ u) q a b c d := ⟨(k1.block _ (lt_of h.st.hr) (by have := h.lp; omega)).trans h.st.hr, (k1.block _ (lt_of h.st.hq) (fun e => h.np e.symm)).trans h.st.hq,
    h.st.hb.trans (k1.below h.st.hb.size (fun k h1 h2 => by have := h.lp; omega)), h.st.lt⟩
  have v1 : (W.setCell ⟨p, 1, none⟩ u).heap[p]? = some (.cells #[x, u, z] 50 (0, 0)) := heap3_set1 h.hv
  have k2 : Kept (fun k => k = q) (W.setCell ⟨p, 1, none⟩ u) (((((W.setCell ⟨p, 1, none⟩ u).setCell ⟨q, 0, none⟩ a').setCell ⟨q, 1, none⟩ b').setCell ⟨q, 2, none⟩ c').setCell ⟨q, 3, none⟩ d') :=
    ((((Kept.refl (fun k => k = q) _).setCell (p := ⟨q, 0, none⟩) (fun _ => rfl) _).setCell (p := ⟨q, 1, none⟩) (fun _ => rfl) _).setCell (p := ⟨q, 2, none⟩) (fun _ => rfl) _).setCell (p := ⟨q, 3, none⟩) (fun _ => rfl) _
  exact ⟨s1.set a' b' c' d', (k2.block _ (lt_of v1) h.np).trans v1, h.lp, h.np⟩

theorem Rsv.setv2 {w W : World} {q p : Nat} {a b c d x y z : Value} (h : Rsv w W q p a b c d x y z) (u a' b' c' d' : Value) :
    Rsv w (((((W.setCell ⟨p, 2, none⟩ u).setCell ⟨q, 0, none⟩ a').setCell ⟨q, 1, none⟩ b').setCell ⟨q, 2, none⟩ c').setCell ⟨q, 3, none⟩ d') q p a' b' c' d' x y u := by
  have k1 : Kept (fun k => k = p) W (W.setCell ⟨p, 2, none⟩ u) := Kept.setCell (p := ⟨p, 2, none⟩) (Kept.refl (fun k => k = p) W) (fun _ => rfl) _
  have s1 : Rst w (W.setCell ⟨p, 2, none⟩ u) q a b c d := ⟨(k1.block _ (lt_of h.st.hr) (by have := h.lp; omega)).trans h.st.hr, (k1.block _ (lt_of h.st.hq) (fun e => h.np e.symm)).trans h.st.hq,
    h.st.hb.trans (k1.below h.st.hb.size (fun k h1 h2 => by have := h.lp; omega)), h.st.lt⟩
  have v1 : (W.setCell ⟨p, 2, none⟩ u).heap[p]? = some (.cells #[x, y, u] 50 (0, 0)) := heap3_set2 h.hv
  have k2 : Kept (fun k => k = q) (W.setCell ⟨p, 2, none⟩ u) (((((W.setCell ⟨p, 2, none⟩ u).setCell ⟨q, 0, none⟩ a').setCell ⟨q, 1, none⟩ b').setCell ⟨q, 2, none⟩ c').setCell ⟨q, 3, none⟩ d') :=
    ((((Kept.refl (fun k => k = q) _).setCell (p := ⟨q, 0, none⟩) (fun _ => rfl) _).setCell (p := ⟨q, 1, none⟩) (fun _ => rfl) _).setCell (p := ⟨q, 2, none⟩) (fun _ => rfl) _).setCell (p := ⟨q, 3, none⟩) (fun _ => rfl) _
  exact ⟨s1.set a' b' c' d', (k2.block _ (lt_of v1) h.np).trans v1, h.lp, h.np⟩

theorem takeZ_at (f n : Int) (bs : List Int) (at' : Nat) (e : Int) (_h : at' ≤ bs.length) (hr : (takeZ f n bs at' e).2.1 ≤ bs.length) : (takeZ f n bs at' e).2.1 ≤ bs.length := hr

end Go.Proofs.Ytdnlfacfleemeaa

namespace Go.Proofs.Ytdnlfacfleemeaa
open Go.RowKit Go.Lib

theorem takeZ_le (f n : Int) (bs : List Int) (at' : Nat) (e : Int) (ho : Oct bs) (h : at' ≤ bs.length) : (takeZ f n bs at' e).2.1 ≤ bs.length := by
  have ho2 : Oct (bs.drop at') := fun x hx => ho x (List.mem_of_mem_drop hx)
  have hd : (bs.drop at').length = bs.length - at' := by simp
  unfold takeZ
  split
  · split
    · rename_i h0
      have hb := leadZ_ok f (bs.drop at') n ho2 h0
      rw [hd] at *
      split
      · split
        · exact h
        · split
          · exact h
          · dsimp only; omega
      · dsimp only; omega
    · exact h
  · exact h

theorem takeZ_byte (bs : List Int) : bs = [] ∧ takeZ 0 1 bs 0 0 = ((0, []), 0, 2) ∨ ∃ b r, bs = b :: r ∧ takeZ 0 1 bs 0 0 = ((b, []), 1, 0) := by
  cases bs with
  | nil => exact .inl ⟨rfl, by simp [takeZ, leadZ, fixZ]⟩
  | cons b r =>
    refine .inr ⟨b, r, rfl, ?_⟩
    have hn : ¬ ((r.length : Int) + 1 < 1) := by omega
    simp [takeZ, leadZ, fixZ, leZ, hn]

end Go.Proofs.Ytdnlfacfleemeaa
