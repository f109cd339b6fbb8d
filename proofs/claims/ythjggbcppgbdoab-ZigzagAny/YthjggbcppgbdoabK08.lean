import Derived.Test.YthjggbcppgbdoabK07
namespace Go.Proofs.Ythjggbcppgbdoab
open Go.RowKit

attribute [local go_sem] Oper.semAt_some

theorem four (w : World) (a b c d : Obj) : ((((w.alloc a).alloc b).alloc c).alloc d).heap[w.heap.size]? = some a ∧ ((((w.alloc a).alloc b).alloc c).alloc d).heap[w.heap.size + 1]? = some b ∧ ((((w.alloc a).alloc b).alloc c).alloc d).heap[w.heap.size + 1 + 1]? = some c ∧ ((((w.alloc a).alloc b).alloc c).alloc d).heap[w.heap.size + 1 + 1 + 1]? = some d ∧ Below w.heap.size w ((((w.alloc a).alloc b).alloc c).alloc d) := by
  obtain ⟨h1, h2, h3, h4⟩ := three w a b c
  refine ⟨hp_alloc h1 d, hp_alloc h2 d, hp_alloc h3 d, ?_, h4.alloc (by simp; omega) d⟩
  have := hp_new (((w.alloc a).alloc b).alloc c) d
  simpa using this

/-- Between two rounds of least's loop: w1 is the world where it began. -/
def LI (w1 : World) (h : Bool) (f : Nat → Sd) (frm : ByteArray) (t : Tr) : Nat → Nat → Nat → Nat → Bool → ByteArray → Tr → World → Prop :=
  fun gf gl gt mm st last t' W => t' = t ∧ Below w1.heap.size w1 W ∧ (w1.heap.size ≤ gf ∧ w1.heap.size ≤ gl ∧ w1.heap.size ≤ gt) ∧ mm = ahd st last t.toL ∧ Passed h f frm st last t.toL
/-- Something was found: the boxes of the answer. -/
def LX (w : World) (r1 r2 r3 : Nat) (h : Bool) (f : Nat → Sd) (frm to : ByteArray) (t : Tr) : World → Prop :=
  fun W => ∃ e, leastE h f frm to t.toL = some e ∧ W.heap[r1]? = some (.cells #[.string e.2.1] 9 (0, 0)) ∧ W.heap[r2]? = some (.cells #[.int .i64 (see h (f (bk e.2.2))).1] 3 (0, 0)) ∧ W.heap[r3]? = some (.cells #[.bool true] 4 (0, 0)) ∧ Below w.heap.size w W

theorem leastI {w w1 : World} {p g1 g2 g3 r1 r2 r3 : Nat} {h : Bool} {f : Nat → Sd} {frm to : ByteArray} {t : Tr} {c : Int} {m : Bool} (hz : ZS w1 p t f c m) (hi : It w1 g1 g2 g3 (some ⟨p, 0, none⟩) frm to) (hw : w.heap.size ≤ w1.heap.size) :
    RangeI w1.heap.size (some ⟨p, 0, none⟩) frm to g1 g2 g3 (LI w1 h f frm t) (LX w r1 r2 r3 h f frm to t) := by
  refine ⟨?_, ?_, ?_, ?_⟩
  · rintro gf gl gt mm st last t' W ⟨rfl, hb, -⟩
    exact ⟨.inr ⟨p, _, rfl, (hz.below hb).tb⟩, fun e he => hz.sh e he⟩
  · rintro gf gl gt mm st last t' W ⟨rfl, hb, -⟩
    exact ⟨hp_below hi.t hb (hp_lt hi.t), hp_below hi.f hb (hp_lt hi.f), hp_below hi.e hb (hp_lt hi.e)⟩
  · rintro gf gl gt mm st last t' W W' S ⟨rfl, hb, hg, hm⟩ hk hS
    refine ⟨rfl, hb.trans (hk.below hb.size (fun k hk' hs => ?_)), hg, hm⟩
    rcases hS k hs with e | e | e | ⟨e, -⟩ <;> omega
  · rintro W W' S ⟨e, h1, h2, h3, h4, h5⟩ hk hS
    have nc : ∀ j cs ty, W.heap[j]? = some (.cells cs ty (0, 0)) → ¬ S j := fun j cs ty hj hs => by
      obtain ⟨-, ob, ho, hc⟩ := hS j hs
      rw [hj] at ho
      cases ho
      cases hc
    refine ⟨e, h1, hp_kept h2 hk (nc _ _ _ h2), hp_kept h3 hk (nc _ _ _ h3), hp_kept h4 hk (nc _ _ _ h4), h5.trans (hk.below h5.size (fun k hk' hs => ?_))⟩
    have := (hS k hs).1
    omega

theorem ret_c3 {fn : Func} {p q r : Tmp} (h : fn.results = #[.cell p 9, .cell q 3, .cell r 4]) {tmps : Array Value} {a b c : Nat} {w : World} {x : ByteArray} {y : Int} {z : Bool} (hp : tmps.getD p undef = .pointer (some ⟨a, 0, none⟩)) (hq : tmps.getD q undef = .pointer (some ⟨b, 0, none⟩)) (hr : tmps.getD r undef = .pointer (some ⟨c, 0, none⟩))
    (ha : w.heap[a]? = some (.cells #[.string x] 9 (0, 0))) (hb : w.heap[b]? = some (.cells #[.int .i64 y] 3 (0, 0))) (hc : w.heap[c]? = some (.cells #[.bool z] 4 (0, 0))) :
    (results fn tmps).run Try.prog w = .ok (.tuple #[.string x, .int .i64 y, .bool z]) w := by
  have hp2 := hp
  have hq2 := hq
  have hr2 := hr
  simp only [Array.getD_eq_getD_getElem?] at hp2 hq2 hr2
  have d1 := cells1 ha
  have d2 := cells1 hb
  have d3 := cells1 hc
  simp only [results, h]
  simp [hp2, hq2, hr2, asAddr, go_sem, d1, d2, d3]

theorem keepsFrom_drewN (B n : Nat) (W : World) : KeepsFrom B W (W.drewN n) := ⟨Nat.le_refl _, fun _ _ _ h _ => h⟩

theorem ZS.slot {w : World} {p : Nat} {t : Tr} {f : Nat → Sd} {c : Int} {m : Bool} (h : ZS w p t f c m) {b : Nat} {k : ByteArray} {v : Value} (he : (b, k, v) ∈ t.toL) : ∃ sb, v = .pointer (some ⟨sb, 0, none⟩) ∧ Sl w sb (f sb) := h.sl _ he

set_option maxRecDepth 100000 in
set_option maxHeartbeats 4000000 in
theorem least49 (p : Nat) (frm to : ByteArray) (t : Tr) (f : Nat → Sd) (c : Int) (m : Bool) (w : World) (h : ZS w p t f c m) (h1 : frm.size ≤ 281474976710656) (h2 : to.size ≤ 281474976710656) :
    Calls Try.prog 36 #[.pointer (some ⟨p, 0, none⟩), .string frm, .string to, .func (.func 28) #[] #[]] w fun x w' => x = .returned (leastV false f frm to t.toL) ∧ Below w.heap.size w w' := by
  have RG := hid (fun W => range_any (some ⟨p, 0, none⟩) frm to W h1 h2)
  have HZ := hid h
  generalize hP : (fun (x : Ending) (w' : World) => x = .returned (leastV false f frm to t.toL) ∧ Below w.heap.size w w') = P
  have HP := hid hP
  clear hP h h1 h2
  refine (callsIn_wide (n := 9)).1 (callsIn_of_wp_marks Try.func36 rfl trivial (wpIn_wide.2 ?_))
  simp only [Try.ntmps36, List.size_toArray, List.length_cons, List.length_nil, Nat.reduceAdd, Nat.reduceSub, Array.replicate_succ, Array.replicate_zero, List.push_toArray, List.append_toArray, List.nil_append, List.cons_append]
  go_wp2_with (
    go_at_call 31
    refine (RG.out _).mono ?_
    rintro e w1 ⟨g1, g2, g3, rfl, hi, hb, q1, q2, q3⟩
    have N1 := hid (And.intro hi hb)
    clear hi hb q1 q2 q3)
  obtain ⟨a0, a1, a2, a3, ab⟩ := four w (Obj.cells #[Value.func (Fn.func 28) #[] #[]] 81) (Obj.cells #[Value.string { data := #[] }] 9) (Obj.cells #[Value.int IntKind.i64 0] 3) (Obj.cells #[Value.bool false] 4)
  obtain ⟨hi, hb⟩ := N1.out
  clear N1 RG
  have d0 := hp_below a0 hb (hp_lt a0)
  have d1 := hp_below a1 hb (hp_lt a1)
  have d2 := hp_below a2 hb (hp_lt a2)
  have d3 := hp_below a3 hb (hp_lt a3)
  have BB := hid (below_on ab hb)
  clear a0 a1 a2 a3 ab hb
  have n1 : w.heap.size ≤ w.heap.size + 1 := by omega
  have n2 : w.heap.size ≤ w.heap.size + 1 + 1 := by omega
  have n3 : w.heap.size ≤ w.heap.size + 1 + 1 + 1 := by omega
  generalize w.heap.size + 1 + 1 + 1 = r3 at d3 n3 ⊢
  generalize w.heap.size + 1 + 1 = r2 at d2 n2 ⊢
  generalize w.heap.size + 1 = r1 at d1 n1 ⊢
  have hr0 : w.heap.size ≤ w.heap.size := Nat.le_refl _
  generalize hr0e : w.heap.size = r0 at d0 ⊢
  have Z1 := HZ.out.below BB.out
  have x12 : r1 ≠ r2 := by intro e; subst e; rw [d1] at d2; cases d2
  have x13 : r1 ≠ r3 := by intro e; subst e; rw [d1] at d3; cases d3
  have x23 : r2 ≠ r3 := by intro e; subst e; rw [d2] at d3; cases d3
  have HI : Hid (RangeI w1.heap.size (some ⟨p, 0, none⟩) frm to g1 g2 g3 (LI w1 false f frm t) (LX w r1 r2 r3 false f frm to t)) := hid (leastI Z1 hi BB.out.size)
  refine rangeY (o := some ⟨p, 0, none⟩) (frm := frm) (to := to) (g1 := g1) (g2 := g2) (g3 := g3) rfl rfl (I := LI w1 false f frm t) (Ix := LX w r1 r2 r3 false f frm to t) HI.out (ahd false frm t.toL) t hi
    (fun gf gl gt w2 hb q1 q2 q3 _ => ⟨rfl, hb, ⟨q1, q2, q3⟩, rfl, passed_start _ _ _ _⟩)
    (fun k v => { tmps := #[.pointer (some ⟨p, 0, none⟩), .string frm, .string to, .func (.func 28) #[] #[], undef, undef, undef, .pointer (some ⟨r0, 0, none⟩), .pointer (some ⟨r1, 0, none⟩), .pointer (some ⟨r2, 0, none⟩), .pointer (some ⟨r3, 0, none⟩), .string k, v, undef, undef, .pointer (some ⟨p, 0, none⟩), .bool false, undef, undef, undef, .pointer (some ⟨p, 0, none⟩), .pointer (some ⟨p, 0, none⟩), .pointer (some ⟨p, 0, none⟩), .string frm, .string to, itV g1 g2 g3, .string k, v, undef, undef, undef, undef, undef, undef, undef, undef, undef, undef, undef, undef], defers := [] }) ?assign ?body ?done ?stop
  case assign =>
    intro n l k v W K hK
    gi_wp2
    exact hK
  case body =>
    rintro n l gf gl gt mm st last t' W b k v ⟨rfl, hB, hg, rfl, hpa⟩ hq ht
    have Z2 := Z1.below hB
    obtain ⟨sb, rfl, hsl⟩ := Z2.slot (nx_mem hq)
    have c0 := cells1 (hp_below d0 hB (hp_lt d0))
    have SE := hid (seeR_any sb (f sb) W hsl)
    have y1 := hp_below d1 hB (hp_lt d1)
    have y2 := hp_below d2 hB (hp_lt d2)
    have y3 := hp_below d3 hB (hp_lt d3)
    have c1 := cells1 y1
    have c2 := cells1 y2
    have c3 := cells1 y3
    have f1 : ∀ j, W.frozen? ⟨r1, j, none⟩ = false := fun j => free_of_block y1
    have f2 : ∀ j, W.frozen? ⟨r2, j, none⟩ = false := fun j => free_of_block y2
    have f3 : ∀ j, W.frozen? ⟨r3, j, none⟩ = false := fun j => free_of_block y3
    have l1 := hp_lt d1
    have l2 := hp_lt d2
    have l3 := hp_lt d3
    have rs : Rises t'.toL := Z1.tb.rs
    have NN := hid (And.intro hB (And.intro hg (And.intro hpa (And.intro hq (And.intro ht (And.intro y1 (And.intro y2 (And.intro y3 (And.intro rs (And.intro l1 (And.intro l2 l3)))))))))))
    have BW := hid (And.intro BB.out (And.intro hr0e (And.intro n1 (And.intro n2 n3))))
    generalize hPP : RangePost w1.heap.size gf gl gt (ahd st last t'.toL) k (LI w1 false f frm t') (LX w r1 r2 r3 false f frm to t') W = PP
    have HPP := hid hPP
    clear hPP hB hg hpa hq ht hsl Z2 d0 d1 d2 d3 hi HZ HI Z1 y1 y2 y3 rs l1 l2 l3 n1 n2 n3 BB hr0 hr0e
    cases hs : (see false (f sb)).2
    · have HS := hid hs
      rw [hs] at SE
      clear hs
      gi_wp2_with (
        refine ⟨trivial, fun hd => (by cases hd), ?_⟩
        gi_at_call 28
        refine (CallsIn.inRound l (callsIn_wide.2 SE.out)).mono ?_
        rintro e w2 ⟨rfl, n2, e2⟩
        rw [e2]
        clear e2 w2)
      rw [← HPP.out]
      obtain ⟨hB, hg, hpa, hq, ht, y1, y2, y3, rs, -⟩ := NN.out
      exact ⟨keepsFrom_drewN _ _ _, ⟨rfl, rfl, rfl⟩, ahd true k t'.toL, t', ahd_less hq, rfl, blw_drewN hB, hg, rfl, passed_on rs hpa hq HS.out⟩
    · have HS := hid hs
      rw [hs] at SE
      clear hs
      gi_wp2_with (
        refine ⟨trivial, fun hd => (by cases hd), ?_⟩
        gi_at_call 28
        refine (CallsIn.inRound l (callsIn_wide.2 SE.out)).mono ?_
        rintro e w2 ⟨rfl, n2, e2⟩
        rw [e2]
        clear e2 w2)
      rw [← HPP.out]
      obtain ⟨hB, hg, hpa, hq, ht, y1, y2, y3, rs, l1, l2, l3⟩ := NN.out
      obtain ⟨hBB, rfl, n1, n2', n3⟩ := BW.out
      refine ⟨((keepsFrom_drewN _ _ _).trans ((KeepsOthers.setCell _ _ _).from _)).trans (((KeepsOthers.setCell _ _ _).from _).trans ((KeepsOthers.setCell _ _ _).from _)), ⟨?_, ?_, ?_⟩, (b, k, .pointer (some ⟨sb, 0, none⟩)), least_found rs hpa hq ht HS.out, ?_, ?_, ?_, ?_⟩
      · exact ((Below.heap_setCell _ _ _ _ (show gf ≠ r3 by omega)).trans (Below.heap_setCell _ _ _ _ (show gf ≠ r2 by omega))).trans (Below.heap_setCell _ _ _ _ (show gf ≠ r1 by omega))
      · exact ((Below.heap_setCell _ _ _ _ (show gl ≠ r3 by omega)).trans (Below.heap_setCell _ _ _ _ (show gl ≠ r2 by omega))).trans (Below.heap_setCell _ _ _ _ (show gl ≠ r1 by omega))
      · exact ((Below.heap_setCell _ _ _ _ (show gt ≠ r3 by omega)).trans (Below.heap_setCell _ _ _ _ (show gt ≠ r2 by omega))).trans (Below.heap_setCell _ _ _ _ (show gt ≠ r1 by omega))
      · exact hp_set (hp_set (set_block (i := 0) (w := W.drewN _) y1 _) x12 _) x13 _
      · exact hp_set (set_block (i := 0) (hp_set (w := W.drewN _) y2 (fun e => x12 e.symm) _) _) x23 _
      · exact set_block (i := 0) (hp_set (hp_set (w := W.drewN _) y3 (fun e => x13 e.symm) _) (fun e => x23 e.symm) _) _
      · exact (((blw_drewN (hBB.trans (hB.mono hBB.size))).setCell (p := ⟨r1, 0, none⟩) (by simpa using n1) _).setCell (p := ⟨r2, 0, none⟩) (by simpa using n2') _).setCell (p := ⟨r3, 0, none⟩) (by simpa using n3) _
  case done =>
    rintro D W gf gl gt mm st last t' hD ⟨rfl, hB, hg, rfl, hpa⟩ hE hK
    have hw0 := BB.out.size
    have y1 := hp_below d1 hB (hp_lt d1)
    have y2 := hp_below d2 hB (hp_lt d2)
    have y3 := hp_below d3 hB (hp_lt d3)
    have c1 := cells1 y1
    have c2 := cells1 y2
    have c3 := cells1 y3
    have f1 : ∀ j, W.frozen? ⟨r1, j, none⟩ = false := fun j => free_of_block y1
    have f2 : ∀ j, W.frozen? ⟨r2, j, none⟩ = false := fun j => free_of_block y2
    have f3 : ∀ j, W.frozen? ⟨r3, j, none⟩ = false := fun j => free_of_block y3
    have l1 := hp_lt d1
    have l2 := hp_lt d2
    have l3 := hp_lt d3
    have e0 : leastE false f frm to t'.toL = none := least_none Z1.tb.rs hpa hE
    have NN := hid (And.intro e0 (And.intro hB (And.intro hD (And.intro hK (And.intro y1 (And.intro y2 (And.intro y3 (And.intro l1 (And.intro l2 l3)))))))))
    have BW := hid (And.intro BB.out (And.intro hr0e (And.intro n1 (And.intro n2 n3))))
    have BQ := hid hw0
    clear hB hg hpa hE Z1 d0 d1 d2 d3 hi HZ HI y1 y2 y3 n1 n2 n3 BB hr0 hr0e e0 hD hK l1 l2 l3 hw0
    have m1 := hp_lt NN.out.2.2.2.2.1
    have m2 := hp_lt NN.out.2.2.2.2.2.1
    have m3 := hp_lt NN.out.2.2.2.2.2.2.1
    simp only [Exit.inBlock, Exit.then]
    go_wp2
    go_region
    obtain ⟨e0, hB, hD, hK, y1, y2, y3, l1, l2, l3⟩ := NN.out
    obtain ⟨hBB, rfl, n1, n2, n3⟩ := BW.out
    have z1 := hp_alloc (hp_set (hp_set (set_block (i := 0) y1 (.string ⟨#[]⟩)) x12 (.int .i64 0) (p := ⟨r2, 0, none⟩)) x13 (.bool false) (p := ⟨r3, 0, none⟩)) (Obj.cells #[Value.int IntKind.i64 0] 3)
    have z2 := hp_alloc (hp_set (set_block (i := 0) (hp_set y2 (fun e => x12 e.symm) (.string ⟨#[]⟩) (p := ⟨r1, 0, none⟩)) (.int .i64 0)) x23 (.bool false) (p := ⟨r3, 0, none⟩)) (Obj.cells #[Value.int IntKind.i64 0] 3)
    have z3 := hp_alloc (set_block (i := 0) (hp_set (hp_set y3 (fun e => x13 e.symm) (.string ⟨#[]⟩) (p := ⟨r1, 0, none⟩)) (fun e => x23 e.symm) (.int .i64 0) (p := ⟨r2, 0, none⟩)) (.bool false)) (Obj.cells #[Value.int IntKind.i64 0] 3)
    have zK := hp_alloc (hp_set (hp_set (hp_set hK (show D ≠ r1 by omega) (.string ⟨#[]⟩) (p := ⟨r1, 0, none⟩)) (show D ≠ r2 by omega) (.int .i64 0) (p := ⟨r2, 0, none⟩)) (show D ≠ r3 by omega) (.bool false) (p := ⟨r3, 0, none⟩)) (Obj.cells #[Value.int IntKind.i64 0] 3)
    have hBW := hBB.trans (hB.mono hBB.size)
    have zB := ((((hBW.setCell (p := ⟨r1, 0, none⟩) (by simpa using n1) (.string ⟨#[]⟩)).setCell (p := ⟨r2, 0, none⟩) (by simpa using n2) (.int .i64 0)).setCell (p := ⟨r3, 0, none⟩) (by simpa using n3) (.bool false)).alloc (by have := hBW.size; simpa using this) (Obj.cells #[Value.int IntKind.i64 0] 3)).drew
    generalize ((((W.setCell ⟨r1, 0, none⟩ (.string ⟨#[]⟩)).setCell ⟨r2, 0, none⟩ (.int .i64 0)).setCell ⟨r3, 0, none⟩ (.bool false)).alloc (Obj.cells #[Value.int IntKind.i64 0] 3)) = W4 at z1 z2 z3 zK zB ⊢
    have ZZ := hid (And.intro z1 (And.intro z2 (And.intro z3 (And.intro zK zB))))
    clear z1 z2 z3 zK zB y1 y2 y3 hK hB hBB hBW
    have hw0 := BQ.out
    go_wp2
    obtain ⟨z1, z2, z3, zK, zB⟩ := ZZ.out
    refine ⟨by simp, .inl ⟨_, _, rfl, run_takeDeferred (w := W4.drew) zK, ?_⟩⟩
    refine ⟨_, ret_c3 Try.results36 rfl rfl rfl ((put_off _ (by omega)).trans z1) ((put_off _ (by omega)).trans z2) ((put_off _ (by omega)).trans z3), ?_⟩
    rw [← HP.out]
    refine ⟨by unfold leastV; rw [e0], zB.trans ((kept_put W4.drew D _).below zB.size (fun k hk e => by omega))⟩
  case stop =>
    rintro D W hD ⟨e, h1, h2, h3, h4, h5⟩ hK
    have l1 := hp_lt d1
    have l2 := hp_lt d2
    have l3 := hp_lt d3
    have hw0 := BB.out.size
    simp only [Exit.inBlock, Exit.then]
    refine ⟨by simp, .inl ⟨_, _, rfl, run_takeDeferred hK, ?_⟩⟩
    refine ⟨_, ret_c3 Try.results36 rfl rfl rfl ((put_off _ (by omega)).trans h2) ((put_off _ (by omega)).trans h3) ((put_off _ (by omega)).trans h4), ?_⟩
    rw [← HP.out]
    refine ⟨by unfold leastV; rw [h1], h5.trans ((kept_put W D _).below h5.size (fun k hk e => by omega))⟩

set_option maxRecDepth 100000 in
set_option maxHeartbeats 4000000 in
theorem least58 (p : Nat) (frm to : ByteArray) (t : Tr) (f : Nat → Sd) (c : Int) (m : Bool) (w : World) (h : ZS w p t f c m) (h1 : frm.size ≤ 281474976710656) (h2 : to.size ≤ 281474976710656) :
    Calls Try.prog 36 #[.pointer (some ⟨p, 0, none⟩), .string frm, .string to, .func (.func 37) #[] #[]] w fun x w' => x = .returned (leastV true f frm to t.toL) ∧ Below w.heap.size w w' := by
  have RG := hid (fun W => range_any (some ⟨p, 0, none⟩) frm to W h1 h2)
  have HZ := hid h
  generalize hP : (fun (x : Ending) (w' : World) => x = .returned (leastV true f frm to t.toL) ∧ Below w.heap.size w w') = P
  have HP := hid hP
  clear hP h h1 h2
  refine (callsIn_wide (n := 9)).1 (callsIn_of_wp_marks Try.func36 rfl trivial (wpIn_wide.2 ?_))
  simp only [Try.ntmps36, List.size_toArray, List.length_cons, List.length_nil, Nat.reduceAdd, Nat.reduceSub, Array.replicate_succ, Array.replicate_zero, List.push_toArray, List.append_toArray, List.nil_append, List.cons_append]
  go_wp2_with (
    go_at_call 31
    refine (RG.out _).mono ?_
    rintro e w1 ⟨g1, g2, g3, rfl, hi, hb, q1, q2, q3⟩
    have N1 := hid (And.intro hi hb)
    clear hi hb q1 q2 q3)
  obtain ⟨a0, a1, a2, a3, ab⟩ := four w (Obj.cells #[Value.func (Fn.func 37) #[] #[]] 81) (Obj.cells #[Value.string { data := #[] }] 9) (Obj.cells #[Value.int IntKind.i64 0] 3) (Obj.cells #[Value.bool false] 4)
  obtain ⟨hi, hb⟩ := N1.out
  clear N1 RG
  have d0 := hp_below a0 hb (hp_lt a0)
  have d1 := hp_below a1 hb (hp_lt a1)
  have d2 := hp_below a2 hb (hp_lt a2)
  have d3 := hp_below a3 hb (hp_lt a3)
  have BB := hid (below_on ab hb)
  clear a0 a1 a2 a3 ab hb
  have n1 : w.heap.size ≤ w.heap.size + 1 := by omega
  have n2 : w.heap.size ≤ w.heap.size + 1 + 1 := by omega
  have n3 : w.heap.size ≤ w.heap.size + 1 + 1 + 1 := by omega
  generalize w.heap.size + 1 + 1 + 1 = r3 at d3 n3 ⊢
  generalize w.heap.size + 1 + 1 = r2 at d2 n2 ⊢
  generalize w.heap.size + 1 = r1 at d1 n1 ⊢
  have hr0 : w.heap.size ≤ w.heap.size := Nat.le_refl _
  generalize hr0e : w.heap.size = r0 at d0 ⊢
  have Z1 := HZ.out.below BB.out
  have x12 : r1 ≠ r2 := by intro e; subst e; rw [d1] at d2; cases d2
  have x13 : r1 ≠ r3 := by intro e; subst e; rw [d1] at d3; cases d3
  have x23 : r2 ≠ r3 := by intro e; subst e; rw [d2] at d3; cases d3
  have HI : Hid (RangeI w1.heap.size (some ⟨p, 0, none⟩) frm to g1 g2 g3 (LI w1 true f frm t) (LX w r1 r2 r3 true f frm to t)) := hid (leastI Z1 hi BB.out.size)
  refine rangeY (o := some ⟨p, 0, none⟩) (frm := frm) (to := to) (g1 := g1) (g2 := g2) (g3 := g3) rfl rfl (I := LI w1 true f frm t) (Ix := LX w r1 r2 r3 true f frm to t) HI.out (ahd false frm t.toL) t hi
    (fun gf gl gt w2 hb q1 q2 q3 _ => ⟨rfl, hb, ⟨q1, q2, q3⟩, rfl, passed_start _ _ _ _⟩)
    (fun k v => { tmps := #[.pointer (some ⟨p, 0, none⟩), .string frm, .string to, .func (.func 37) #[] #[], undef, undef, undef, .pointer (some ⟨r0, 0, none⟩), .pointer (some ⟨r1, 0, none⟩), .pointer (some ⟨r2, 0, none⟩), .pointer (some ⟨r3, 0, none⟩), .string k, v, undef, undef, .pointer (some ⟨p, 0, none⟩), .bool false, undef, undef, undef, .pointer (some ⟨p, 0, none⟩), .pointer (some ⟨p, 0, none⟩), .pointer (some ⟨p, 0, none⟩), .string frm, .string to, itV g1 g2 g3, .string k, v, undef, undef, undef, undef, undef, undef, undef, undef, undef, undef, undef, undef], defers := [] }) ?assign ?body ?done ?stop
  case assign =>
    intro n l k v W K hK
    gi_wp2
    exact hK
  case body =>
    rintro n l gf gl gt mm st last t' W b k v ⟨rfl, hB, hg, rfl, hpa⟩ hq ht
    have Z2 := Z1.below hB
    obtain ⟨sb, rfl, hsl⟩ := Z2.slot (nx_mem hq)
    have c0 := cells1 (hp_below d0 hB (hp_lt d0))
    have SE := hid (seeH_any sb (f sb) W hsl)
    have y1 := hp_below d1 hB (hp_lt d1)
    have y2 := hp_below d2 hB (hp_lt d2)
    have y3 := hp_below d3 hB (hp_lt d3)
    have c1 := cells1 y1
    have c2 := cells1 y2
    have c3 := cells1 y3
    have f1 : ∀ j, W.frozen? ⟨r1, j, none⟩ = false := fun j => free_of_block y1
    have f2 : ∀ j, W.frozen? ⟨r2, j, none⟩ = false := fun j => free_of_block y2
    have f3 : ∀ j, W.frozen? ⟨r3, j, none⟩ = false := fun j => free_of_block y3
    have l1 := hp_lt d1
    have l2 := hp_lt d2
    have l3 := hp_lt d3
    have rs : Rises t'.toL := Z1.tb.rs
    have NN := hid (And.intro hB (And.intro hg (And.intro hpa (And.intro hq (And.intro ht (And.intro y1 (And.intro y2 (And.intro y3 (And.intro rs (And.intro l1 (And.intro l2 l3)))))))))))
    have BW := hid (And.intro BB.out (And.intro hr0e (And.intro n1 (And.intro n2 n3))))
    generalize hPP : RangePost w1.heap.size gf gl gt (ahd st last t'.toL) k (LI w1 true f frm t') (LX w r1 r2 r3 true f frm to t') W = PP
    have HPP := hid hPP
    clear hPP hB hg hpa hq ht hsl Z2 d0 d1 d2 d3 hi HZ HI Z1 y1 y2 y3 rs l1 l2 l3 n1 n2 n3 BB hr0 hr0e
    cases hs : (see true (f sb)).2
    · have HS := hid hs
      rw [hs] at SE
      clear hs
      gi_wp2_with (
        refine ⟨trivial, fun hd => (by cases hd), ?_⟩
        gi_at_call 37
        refine (CallsIn.inRound l (callsIn_wide.2 SE.out)).mono ?_
        rintro e w2 ⟨rfl, n2, e2⟩
        rw [e2]
        clear e2 w2)
      rw [← HPP.out]
      obtain ⟨hB, hg, hpa, hq, ht, y1, y2, y3, rs, -⟩ := NN.out
      exact ⟨keepsFrom_drewN _ _ _, ⟨rfl, rfl, rfl⟩, ahd true k t'.toL, t', ahd_less hq, rfl, blw_drewN hB, hg, rfl, passed_on rs hpa hq HS.out⟩
    · have HS := hid hs
      rw [hs] at SE
      clear hs
      gi_wp2_with (
        refine ⟨trivial, fun hd => (by cases hd), ?_⟩
        gi_at_call 37
        refine (CallsIn.inRound l (callsIn_wide.2 SE.out)).mono ?_
        rintro e w2 ⟨rfl, n2, e2⟩
        rw [e2]
        clear e2 w2)
      rw [← HPP.out]
      obtain ⟨hB, hg, hpa, hq, ht, y1, y2, y3, rs, l1, l2, l3⟩ := NN.out
      obtain ⟨hBB, rfl, n1, n2', n3⟩ := BW.out
      refine ⟨((keepsFrom_drewN _ _ _).trans ((KeepsOthers.setCell _ _ _).from _)).trans (((KeepsOthers.setCell _ _ _).from _).trans ((KeepsOthers.setCell _ _ _).from _)), ⟨?_, ?_, ?_⟩, (b, k, .pointer (some ⟨sb, 0, none⟩)), least_found rs hpa hq ht HS.out, ?_, ?_, ?_, ?_⟩
      · exact ((Below.heap_setCell _ _ _ _ (show gf ≠ r3 by omega)).trans (Below.heap_setCell _ _ _ _ (show gf ≠ r2 by omega))).trans (Below.heap_setCell _ _ _ _ (show gf ≠ r1 by omega))
      · exact ((Below.heap_setCell _ _ _ _ (show gl ≠ r3 by omega)).trans (Below.heap_setCell _ _ _ _ (show gl ≠ r2 by omega))).trans (Below.heap_setCell _ _ _ _ (show gl ≠ r1 by omega))
      · exact ((Below.heap_setCell _ _ _ _ (show gt ≠ r3 by omega)).trans (Below.heap_setCell _ _ _ _ (show gt ≠ r2 by omega))).trans (Below.heap_setCell _ _ _ _ (show gt ≠ r1 by omega))
      · exact hp_set (hp_set (set_block (i := 0) (w := W.drewN _) y1 _) x12 _) x13 _
      · exact hp_set (set_block (i := 0) (hp_set (w := W.drewN _) y2 (fun e => x12 e.symm) _) _) x23 _
      · exact set_block (i := 0) (hp_set (hp_set (w := W.drewN _) y3 (fun e => x13 e.symm) _) (fun e => x23 e.symm) _) _
      · exact (((blw_drewN (hBB.trans (hB.mono hBB.size))).setCell (p := ⟨r1, 0, none⟩) (by simpa using n1) _).setCell (p := ⟨r2, 0, none⟩) (by simpa using n2') _).setCell (p := ⟨r3, 0, none⟩) (by simpa using n3) _
  case done =>
    rintro D W gf gl gt mm st last t' hD ⟨rfl, hB, hg, rfl, hpa⟩ hE hK
    have hw0 := BB.out.size
    have y1 := hp_below d1 hB (hp_lt d1)
    have y2 := hp_below d2 hB (hp_lt d2)
    have y3 := hp_below d3 hB (hp_lt d3)
    have c1 := cells1 y1
    have c2 := cells1 y2
    have c3 := cells1 y3
    have f1 : ∀ j, W.frozen? ⟨r1, j, none⟩ = false := fun j => free_of_block y1
    have f2 : ∀ j, W.frozen? ⟨r2, j, none⟩ = false := fun j => free_of_block y2
    have f3 : ∀ j, W.frozen? ⟨r3, j, none⟩ = false := fun j => free_of_block y3
    have l1 := hp_lt d1
    have l2 := hp_lt d2
    have l3 := hp_lt d3
    have e0 : leastE true f frm to t'.toL = none := least_none Z1.tb.rs hpa hE
    have NN := hid (And.intro e0 (And.intro hB (And.intro hD (And.intro hK (And.intro y1 (And.intro y2 (And.intro y3 (And.intro l1 (And.intro l2 l3)))))))))
    have BW := hid (And.intro BB.out (And.intro hr0e (And.intro n1 (And.intro n2 n3))))
    have BQ := hid hw0
    clear hB hg hpa hE Z1 d0 d1 d2 d3 hi HZ HI y1 y2 y3 n1 n2 n3 BB hr0 hr0e e0 hD hK l1 l2 l3 hw0
    have m1 := hp_lt NN.out.2.2.2.2.1
    have m2 := hp_lt NN.out.2.2.2.2.2.1
    have m3 := hp_lt NN.out.2.2.2.2.2.2.1
    simp only [Exit.inBlock, Exit.then]
    go_wp2
    go_region
    obtain ⟨e0, hB, hD, hK, y1, y2, y3, l1, l2, l3⟩ := NN.out
    obtain ⟨hBB, rfl, n1, n2, n3⟩ := BW.out
    have z1 := hp_alloc (hp_set (hp_set (set_block (i := 0) y1 (.string ⟨#[]⟩)) x12 (.int .i64 0) (p := ⟨r2, 0, none⟩)) x13 (.bool false) (p := ⟨r3, 0, none⟩)) (Obj.cells #[Value.int IntKind.i64 0] 3)
    have z2 := hp_alloc (hp_set (set_block (i := 0) (hp_set y2 (fun e => x12 e.symm) (.string ⟨#[]⟩) (p := ⟨r1, 0, none⟩)) (.int .i64 0)) x23 (.bool false) (p := ⟨r3, 0, none⟩)) (Obj.cells #[Value.int IntKind.i64 0] 3)
    have z3 := hp_alloc (set_block (i := 0) (hp_set (hp_set y3 (fun e => x13 e.symm) (.string ⟨#[]⟩) (p := ⟨r1, 0, none⟩)) (fun e => x23 e.symm) (.int .i64 0) (p := ⟨r2, 0, none⟩)) (.bool false)) (Obj.cells #[Value.int IntKind.i64 0] 3)
    have zK := hp_alloc (hp_set (hp_set (hp_set hK (show D ≠ r1 by omega) (.string ⟨#[]⟩) (p := ⟨r1, 0, none⟩)) (show D ≠ r2 by omega) (.int .i64 0) (p := ⟨r2, 0, none⟩)) (show D ≠ r3 by omega) (.bool false) (p := ⟨r3, 0, none⟩)) (Obj.cells #[Value.int IntKind.i64 0] 3)
    have hBW := hBB.trans (hB.mono hBB.size)
    have zB := ((((hBW.setCell (p := ⟨r1, 0, none⟩) (by simpa using n1) (.string ⟨#[]⟩)).setCell (p := ⟨r2, 0, none⟩) (by simpa using n2) (.int .i64 0)).setCell (p := ⟨r3, 0, none⟩) (by simpa using n3) (.bool false)).alloc (by have := hBW.size; simpa using this) (Obj.cells #[Value.int IntKind.i64 0] 3)).drew
    generalize ((((W.setCell ⟨r1, 0, none⟩ (.string ⟨#[]⟩)).setCell ⟨r2, 0, none⟩ (.int .i64 0)).setCell ⟨r3, 0, none⟩ (.bool false)).alloc (Obj.cells #[Value.int IntKind.i64 0] 3)) = W4 at z1 z2 z3 zK zB ⊢
    have ZZ := hid (And.intro z1 (And.intro z2 (And.intro z3 (And.intro zK zB))))
    clear z1 z2 z3 zK zB y1 y2 y3 hK hB hBB hBW
    have hw0 := BQ.out
    go_wp2
    obtain ⟨z1, z2, z3, zK, zB⟩ := ZZ.out
    refine ⟨by simp, .inl ⟨_, _, rfl, run_takeDeferred (w := W4.drew) zK, ?_⟩⟩
    refine ⟨_, ret_c3 Try.results36 rfl rfl rfl ((put_off _ (by omega)).trans z1) ((put_off _ (by omega)).trans z2) ((put_off _ (by omega)).trans z3), ?_⟩
    rw [← HP.out]
    refine ⟨by unfold leastV; rw [e0], zB.trans ((kept_put W4.drew D _).below zB.size (fun k hk e => by omega))⟩
  case stop =>
    rintro D W hD ⟨e, h1, h2, h3, h4, h5⟩ hK
    have l1 := hp_lt d1
    have l2 := hp_lt d2
    have l3 := hp_lt d3
    have hw0 := BB.out.size
    simp only [Exit.inBlock, Exit.then]
    refine ⟨by simp, .inl ⟨_, _, rfl, run_takeDeferred hK, ?_⟩⟩
    refine ⟨_, ret_c3 Try.results36 rfl rfl rfl ((put_off _ (by omega)).trans h2) ((put_off _ (by omega)).trans h3) ((put_off _ (by omega)).trans h4), ?_⟩
    rw [← HP.out]
    refine ⟨by unfold leastV; rw [h1], h5.trans ((kept_put W D _).below h5.size (fun k hk e => by omega))⟩

set_option maxRecDepth 100000 in
set_option maxHeartbeats 2000000 in
/-- Of no store. -/
theorem least_no (frm to : ByteArray) (gn : Nat) (w : World) : Calls Try.prog 36 #[.pointer none, .string frm, .string to, .func (.func gn) #[] #[]] w fun x w' => x = .returned (.tuple #[.string ⟨#[]⟩, .int .i64 0, .bool false]) ∧ Below w.heap.size w w' := by
  obtain ⟨a0, a1, a2, a3, ab⟩ := four w (Obj.cells #[Value.func (Fn.func gn) #[] #[]] 81) (Obj.cells #[Value.string { data := #[] }] 9) (Obj.cells #[Value.int IntKind.i64 0] 3) (Obj.cells #[Value.bool false] 4)
  generalize hP : (fun (x : Ending) (w' : World) => x = .returned (.tuple #[.string ⟨#[]⟩, .int .i64 0, .bool false]) ∧ Below w.heap.size w w') = P
  have HP := hid hP
  have AA := hid (And.intro a0 (And.intro a1 (And.intro a2 (And.intro a3 ab))))
  clear hP a0 a1 a2 a3 ab
  go_enter Try.func36, Try.ntmps36
  go_wp2
  obtain ⟨a0, d1, d2, d3, ab⟩ := AA.out
  generalize ((((w.alloc (Obj.cells #[Value.func (Fn.func gn) #[] #[]] 81)).alloc (Obj.cells #[Value.string { data := #[] }] 9)).alloc (Obj.cells #[Value.int IntKind.i64 0] 3)).alloc (Obj.cells #[Value.bool false] 4)) = W at a0 d1 d2 d3 ab ⊢
  clear AA a0
  have n1 : w.heap.size ≤ w.heap.size + 1 := by omega
  have n2 : w.heap.size ≤ w.heap.size + 1 + 1 := by omega
  have n3 : w.heap.size ≤ w.heap.size + 1 + 1 + 1 := by omega
  generalize w.heap.size + 1 + 1 + 1 = r3 at d3 n3 ⊢
  generalize w.heap.size + 1 + 1 = r2 at d2 n2 ⊢
  generalize w.heap.size + 1 = r1 at d1 n1 ⊢
  have x12 : r1 ≠ r2 := by intro e; subst e; rw [d1] at d2; cases d2
  have x13 : r1 ≠ r3 := by intro e; subst e; rw [d1] at d3; cases d3
  have x23 : r2 ≠ r3 := by intro e; subst e; rw [d2] at d3; cases d3
  have c1 := cells1 d1
  have c2 := cells1 d2
  have c3 := cells1 d3
  have f1 : ∀ j, W.frozen? ⟨r1, j, none⟩ = false := fun j => free_of_block d1
  have f2 : ∀ j, W.frozen? ⟨r2, j, none⟩ = false := fun j => free_of_block d2
  have f3 : ∀ j, W.frozen? ⟨r3, j, none⟩ = false := fun j => free_of_block d3
  have m1 := hp_lt d1
  have m2 := hp_lt d2
  have m3 := hp_lt d3
  have NN := hid (And.intro d1 (And.intro d2 (And.intro d3 (And.intro ab (And.intro n1 (And.intro n2 n3))))))
  clear d1 d2 d3 ab n1 n2 n3
  go_region
  obtain ⟨y1, y2, y3, hBW, n1, n2, n3⟩ := NN.out
  have z1 := hp_alloc (hp_set (hp_set (set_block (i := 0) y1 (.string ⟨#[]⟩)) x12 (.int .i64 0) (p := ⟨r2, 0, none⟩)) x13 (.bool false) (p := ⟨r3, 0, none⟩)) (Obj.cells #[Value.int IntKind.i64 0] 3)
  have z2 := hp_alloc (hp_set (set_block (i := 0) (hp_set y2 (fun e => x12 e.symm) (.string ⟨#[]⟩) (p := ⟨r1, 0, none⟩)) (.int .i64 0)) x23 (.bool false) (p := ⟨r3, 0, none⟩)) (Obj.cells #[Value.int IntKind.i64 0] 3)
  have z3 := hp_alloc (set_block (i := 0) (hp_set (hp_set y3 (fun e => x13 e.symm) (.string ⟨#[]⟩) (p := ⟨r1, 0, none⟩)) (fun e => x23 e.symm) (.int .i64 0) (p := ⟨r2, 0, none⟩)) (.bool false)) (Obj.cells #[Value.int IntKind.i64 0] 3)
  have zB := ((((hBW.setCell (p := ⟨r1, 0, none⟩) (by simpa using n1) (.string ⟨#[]⟩)).setCell (p := ⟨r2, 0, none⟩) (by simpa using n2) (.int .i64 0)).setCell (p := ⟨r3, 0, none⟩) (by simpa using n3) (.bool false)).alloc (by have := hBW.size; simpa using this) (Obj.cells #[Value.int IntKind.i64 0] 3)).drew
  generalize ((((W.setCell ⟨r1, 0, none⟩ (.string ⟨#[]⟩)).setCell ⟨r2, 0, none⟩ (.int .i64 0)).setCell ⟨r3, 0, none⟩ (.bool false)).alloc (Obj.cells #[Value.int IntKind.i64 0] 3)) = W4 at z1 z2 z3 zB ⊢
  have ZZ := hid (And.intro z1 (And.intro z2 (And.intro z3 zB)))
  clear z1 z2 z3 zB y1 y2 y3 hBW
  go_wp2
  obtain ⟨z1, z2, z3, zB⟩ := ZZ.out
  refine bodyPost_ret (ret_c3 Try.results36 rfl rfl rfl z1 z2 z3) rfl ?_
  rw [← HP.out]
  exact ⟨rfl, zB⟩

end Go.Proofs.Ythjggbcppgbdoab

namespace Go.Proofs.Ythjggbcppgbdoab
open Go.RowKit

attribute [local go_sem] Oper.semAt_some

theorem ZS.kept {w w' : World} {p : Nat} {t : Tr} {f : Nat → Sd} {c : Int} {m : Bool} {S : Nat → Prop} (h : ZS w p t f c m) (hk : Kept S w w') (h0 : ¬ S p) (h1 : ∀ i ∈ t.bs, ¬ S i) (h2 : ∀ e ∈ t.toL, ¬ S (bk e.2.2)) : ZS w' p t f c m :=
  ⟨h.tb.kept hk h0 h1, fun e he => by
    obtain ⟨b, q1, q2⟩ := h.sl e he
    have := h2 e he
    rw [q1] at this
    exact ⟨b, q1, hp_kept q2 hk this⟩, h.nd, h.sh⟩

theorem ZS.lt {w : World} {p : Nat} {t : Tr} {f : Nat → Sd} {c : Int} {m : Bool} (h : ZS w p t f c m) : p < w.heap.size ∧ (∀ i ∈ t.bs, i < w.heap.size) ∧ ∀ e ∈ t.toL, bk e.2.2 < w.heap.size :=
  ⟨hp_lt h.tb.blk, fun i hi => h.tb.at_.lt i hi, fun e he => by
    obtain ⟨b, q1, q2⟩ := h.sl e he
    rw [q1]
    exact hp_lt q2⟩

/-- What lies behind a place is changed. -/
theorem ZS.far {w0 w w' : World} {p : Nat} {t : Tr} {f f0 : Nat → Sd} {c c0 : Int} {m m0 : Bool} {S : Nat → Prop} (h : ZS w p t f c m) (h0 : ZS w0 p t f0 c0 m0) (hk : Kept S w w') (hs : ∀ k, S k → w0.heap.size ≤ k) : ZS w' p t f c m := by
  obtain ⟨l1, l2, l3⟩ := h0.lt
  exact h.kept hk (fun e => by have := hs _ e; omega) (fun i hi e => by have := hs _ e; have := l2 i hi; omega) (fun i hi e => by have := hs _ e; have := l3 i hi; omega)

/-- Only the slots that are there are spoken of. -/
theorem ZS.congr {w : World} {p : Nat} {t : Tr} {f g : Nat → Sd} {c : Int} {m : Bool} (h : ZS w p t f c m) (e : ∀ e ∈ t.toL, g (bk e.2.2) = f (bk e.2.2)) : ZS w p t g c m :=
  ⟨h.tb, fun x hx => by
    obtain ⟨b, q1, q2⟩ := h.sl x hx
    have := e x hx
    rw [q1] at this
    have e2 : g b = f b := this
    exact ⟨b, q1, by rw [e2]; exact q2⟩, h.nd, h.sh⟩

/-- A loop that changes nothing. -/
def CI (w1 : World) (t : Tr) : Nat → Nat → Nat → Nat → Bool → ByteArray → Tr → World → Prop :=
  fun gf gl gt mm st last t' W => t' = t ∧ Below w1.heap.size w1 W ∧ (w1.heap.size ≤ gf ∧ w1.heap.size ≤ gl ∧ w1.heap.size ≤ gt) ∧ mm = ahd st last t.toL

theorem calmI {w1 : World} {p g1 g2 g3 : Nat} {f : Nat → Sd} {frm to : ByteArray} {t : Tr} {c : Int} {m : Bool} (hz : ZS w1 p t f c m) (hi : It w1 g1 g2 g3 (some ⟨p, 0, none⟩) frm to) :
    RangeI w1.heap.size (some ⟨p, 0, none⟩) frm to g1 g2 g3 (CI w1 t) (fun _ => False) := by
  refine ⟨?_, ?_, ?_, fun h _ _ => h⟩
  · rintro gf gl gt mm st last t' W ⟨rfl, hb, -⟩
    exact ⟨.inr ⟨p, _, rfl, (hz.below hb).tb⟩, fun e he => hz.sh e he⟩
  · rintro gf gl gt mm st last t' W ⟨rfl, hb, -⟩
    exact ⟨hp_below hi.t hb (hp_lt hi.t), hp_below hi.f hb (hp_lt hi.f), hp_below hi.e hb (hp_lt hi.e)⟩
  · rintro gf gl gt mm st last t' W W' S ⟨rfl, hb, hg, hm⟩ hk hS
    refine ⟨rfl, hb.trans (hk.below hb.size (fun k hk' hs => ?_)), hg, hm⟩
    rcases hS k hs with e | e | e | ⟨e, -⟩ <;> omega

set_option maxRecDepth 100000 in
set_option maxHeartbeats 4000000 in
/-- sweep, where every slot has something to be read. -/
theorem sweep_calm (p : Nat) (t : Tr) (f : Nat → Sd) (c : Int) (m : Bool) (w : World) (h : ZS w p t f c m) (hs : ∀ e ∈ t.toL, (see false (f (bk e.2.2))).2 = true) :
    Calls Try.prog 30 #[.pointer (some ⟨p, 0, none⟩)] w fun x w' => x = .returned (.tuple #[]) ∧ Below w.heap.size w w' := by
  have RG := hid (fun W => range_any (some ⟨p, 0, none⟩) ⟨#[]⟩ ⟨#[]⟩ W (by decide) (by decide))
  have HZ := hid h
  have HS := hid hs
  generalize hP : (fun (x : Ending) (w' : World) => x = .returned (.tuple #[]) ∧ Below w.heap.size w w') = P
  have HP := hid hP
  clear hP h hs
  refine (callsIn_wide (n := 9)).1 (callsIn_of_wp_marks Try.func30 rfl trivial (wpIn_wide.2 ?_))
  simp only [Try.ntmps30, List.size_toArray, List.length_cons, List.length_nil, Nat.reduceAdd, Nat.reduceSub, Array.replicate_succ, Array.replicate_zero, List.push_toArray, List.append_toArray, List.nil_append, List.cons_append]
  go_wp2_with (
    go_at_call 31
    refine (RG.out _).mono ?_
    rintro e w1 ⟨g1, g2, g3, rfl, hi, hb, q1, q2, q3⟩
    have N1 := hid (And.intro hi hb)
    clear hi hb q1 q2 q3)
  have a0 := hp_new w (Obj.cells #[Value.slice none 0 0] 22)
  have ab := below_new w (Obj.cells #[Value.slice none 0 0] 22)
  obtain ⟨hi, hb⟩ := N1.out
  clear N1 RG
  have d0 := hp_below a0 hb (hp_lt a0)
  have BB := hid (below_on ab hb)
  clear a0 ab hb
  have Z1 := HZ.out.below BB.out
  have HI := hid (calmI Z1 hi)
  have hw0 := BB.out.size
  have l0 := hp_lt d0
  generalize hr0e : w.heap.size = r0 at d0 l0 hw0 ⊢
  refine rangeY (o := some ⟨p, 0, none⟩) (frm := ⟨#[]⟩) (to := ⟨#[]⟩) (g1 := g1) (g2 := g2) (g3 := g3) rfl rfl (I := CI w1 t) (Ix := fun _ => False) HI.out (ahd false ⟨#[]⟩ t.toL) t hi
    (fun gf gl gt w2 hb q1 q2 q3 _ => ⟨rfl, hb, ⟨q1, q2, q3⟩, rfl⟩)
    (fun k v => { tmps := #[.pointer (some ⟨p, 0, none⟩), undef, .pointer (some ⟨r0, 0, none⟩), .string k, v, undef, undef, undef, undef, .pointer (some ⟨p, 0, none⟩), .pointer (some ⟨p, 0, none⟩), .pointer (some ⟨p, 0, none⟩), itV g1 g2 g3, .string k, v, undef, undef, undef, undef, undef, undef, undef, undef, undef, undef, undef, undef, undef, undef, undef, undef, undef, undef, undef, undef, undef, undef, undef], defers := [] }) ?assign ?body ?done ?stop
  case assign =>
    intro n l k v W K hK
    gi_wp2
    exact hK
  case body =>
    rintro n l gf gl gt mm st last t' W b k v ⟨rfl, hB, hg, rfl⟩ hq ht
    have Z2 := Z1.below hB
    obtain ⟨sb, rfl, hsl⟩ := Z2.slot (nx_mem hq)
    have SE := hid (seeR_any sb (f sb) W hsl)
    have hs : (see false (f sb)).2 = true := HS.out _ (nx_mem hq)
    rw [hs] at SE
    have NN := hid (And.intro hB (And.intro hg hq))
    generalize hPP : RangePost w1.heap.size gf gl gt (ahd st last t'.toL) k (CI w1 t') (fun _ => False) W = PP
    have HPP := hid hPP
    clear hPP hB hg hq ht hsl Z2 d0 hi HZ HI HS Z1 BB hs l0 hr0e hw0
    gi_wp2_with (
      refine ⟨trivial, fun hd => (by cases hd), ?_⟩
      gi_at_call 28
      refine (CallsIn.inRound l (callsIn_wide.2 SE.out)).mono ?_
      rintro e w2 ⟨rfl, n2, e2⟩
      rw [e2]
      clear e2 w2)
    rw [← HPP.out]
    obtain ⟨hB, hg, hq⟩ := NN.out
    exact ⟨keepsFrom_drewN _ _ _, ⟨rfl, rfl, rfl⟩, ahd true k t'.toL, t', ahd_less hq, rfl, blw_drewN hB, hg, rfl⟩
  case done =>
    rintro D W gf gl gt mm st last t' hD ⟨rfl, hB, hg, rfl⟩ hE hK
    have y0 := hp_below d0 hB l0
    have c0 := cells1 y0
    have NN := hid (And.intro hB (And.intro hD hK))
    have BW := hid (And.intro BB.out (And.intro hr0e hw0))
    clear hB hg hE Z1 d0 hi HZ HI HS BB hr0e hD hK l0 hw0 y0
    simp only [Exit.inBlock, Exit.then]
    go_wp2
    go_loopw [28] (fun i wr => i = .int .i64 0 ∧ wr = W) (fun _ _ => 0)
    case atStart => exact ⟨rfl, rfl⟩
    case round =>
      obtain ⟨rfl, rfl⟩ := hrel
      go_wp2
      obtain ⟨hB, hD, hK⟩ := NN.out
      obtain ⟨hBB, rfl, hw0⟩ := BW.out
      refine ⟨by simp, .inl ⟨_, _, rfl, run_takeDeferred hK, ?_⟩⟩
      refine ⟨_, results_none rfl _ _ _, ?_⟩
      rw [← HP.out]
      have hBW := hBB.trans (hB.mono hBB.size)
      exact ⟨rfl, hBW.trans ((kept_put _ D _).below hBW.size (fun k hk e => by omega))⟩
  case stop =>
    rintro D W hD h hK
    exact h.elim

end Go.Proofs.Ythjggbcppgbdoab
