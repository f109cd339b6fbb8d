import Derived.Test.YthcoigbkdbkojabGreatK06
import Derived.Sort.CutIn
import Derived.BigRegionIn
import Derived.Test.YthcoigbkdbkojabGreatRows
import Derived.Laws.StructEq
import Derived.Laws.ResultCell
set_option maxRecDepth 100000
namespace Go.Proofs.YthcoigbkdbkojabGreat.V
open Go.RowKit
attribute [local go_sem] Oper.semAt_some
def bhd (s : ByteArray) : ByteArray := s ++ ⟨#[0]⟩
theorem bl_behind : ∀ (s x : List UInt8), Op.bytesLess x (s ++ [0]) = !Op.bytesLess s x
  | [], [] => rfl
  | [], b :: x => by simp [Op.bytesLess]
  | a :: s, [] => by simp [Op.bytesLess]
  | a :: s, b :: x => by
    rw [List.cons_append, Op.bytesLess, Op.bytesLess, bl_behind s x]
    by_cases h1 : b < a
    · have h2 : ¬ a < b := fun h => absurd (UInt8.lt_trans h1 h) (UInt8.lt_irrefl _)
      have h3 : ¬ a = b := fun h => by subst h; exact UInt8.lt_irrefl _ h1
      simp [h1, h2, h3]
    · by_cases h2 : a < b
      · have h3 : ¬ b = a := fun h => by subst h; exact UInt8.lt_irrefl _ h2
        simp [h1, h2, h3]
      · have h3 : a = b := UInt8.le_antisymm (UInt8.not_lt.1 h1) (UInt8.not_lt.1 h2)
        subst h3
        simp [h1]
theorem kl_behind (s k : ByteArray) : kl k (bhd s) = !kl s k := by
  unfold kl bhd
  rw [show (s ++ (⟨#[0]⟩ : ByteArray)).toList = s.toList ++ [0] from by simp [Lib.toList_data]]
  exact bl_behind _ _
theorem bhd_size (s : ByteArray) : (bhd s).size = s.size + 1 := by
  unfold bhd
  simp [ByteArray.size_append]
  rfl
set_option maxHeartbeats 800000 in
theorem behind_any (s : ByteArray) (w : World) (h : s.size ≤ 281474976710000) : Calls Tryz.prog 49 #[.string s] w fun x w' => x = .returned (.string (bhd s)) ∧ w' = w := by
  have hs : (s ++ (⟨#[0]⟩ : ByteArray)).size = s.size + 1 := bhd_size s
  go_enter Tryz.func49, Tryz.ntmps49
  go_wp2
  go_ret
  exact ⟨rfl, rfl⟩
theorem four (w : World) (a b c d : Obj) : ((((w.alloc a).alloc b).alloc c).alloc d).heap[w.heap.size]? = some a ∧ ((((w.alloc a).alloc b).alloc c).alloc d).heap[w.heap.size + 1]? = some b ∧ ((((w.alloc a).alloc b).alloc c).alloc d).heap[w.heap.size + 1 + 1]? = some c ∧ ((((w.alloc a).alloc b).alloc c).alloc d).heap[w.heap.size + 1 + 1 + 1]? = some d ∧ Below w.heap.size w ((((w.alloc a).alloc b).alloc c).alloc d) := by
  obtain ⟨h1, h2, h3, h4⟩ := three w a b c
  refine ⟨hp_alloc h1 d, hp_alloc h2 d, hp_alloc h3 d, ?_, h4.alloc (by simp; omega) d⟩
  have := hp_new (((w.alloc a).alloc b).alloc c) d
  simpa using this
theorem seeR_any (b : Nat) (s : Sd) (w : World) (h : Sl w b s) : Calls Tryz.prog 46 #[.pointer (some ⟨b, 0, none⟩)] w fun x w' => x = .returned (.tuple #[(see false s).1.agg, .bool (see false s).2]) ∧ Below w.heap.size w w' := read_any b s w h
def leastV (f : Nat → Sd) (frm to : ByteArray) (l : List En) : Value := match leastE false f frm to l with
  | some e => .tuple #[.string e.2.1, (see false (f (bk e.2.2))).1.agg, .bool true]
  | none => .tuple #[.string ⟨#[]⟩, zPd.agg, .bool false]
def LI (w1 : World) (h : Bool) (f : Nat → Sd) (frm : ByteArray) (t : Tr) : Nat → Nat → Nat → Nat → Bool → ByteArray → Tr → World → Prop :=
  fun gf gl gt mm st last t' W => t' = t ∧ Below w1.heap.size w1 W ∧ (w1.heap.size ≤ gf ∧ w1.heap.size ≤ gl ∧ w1.heap.size ≤ gt) ∧ mm = ahd st last t.toL ∧ Passed h f frm st last t.toL ∧ (gf < W.heap.size ∧ gl < W.heap.size ∧ gt < W.heap.size)
abbrev pdO (v : Pd) : Obj := .cells #[.int .i64 v.n, .int .i64 v.a, .string v.ao] 29
def LX (w : World) (r1 r2 r3 : Nat) (h : Bool) (f : Nat → Sd) (frm to : ByteArray) (t : Tr) : World → Prop :=
  fun W => ∃ e, leastE h f frm to t.toL = some e ∧ W.heap[r1]? = some (.cells #[.string e.2.1] 9 (0, 0)) ∧ W.heap[r2]? = some (pdO (see h (f (bk e.2.2))).1) ∧ W.heap[r3]? = some (.cells #[.bool true] 4 (0, 0)) ∧ Below w.heap.size w W
theorem leastI {w w1 : World} {p g1 g2 g3 r1 r2 r3 : Nat} {h : Bool} {f : Nat → Sd} {frm to : ByteArray} {t : Tr} {c : Int} {m : Bool} (hz : ZS w1 p t f c m) (hi : It w1 g1 g2 g3 (some ⟨p, 0, none⟩) frm to) (hw : w.heap.size ≤ w1.heap.size) :
    RangeI w1.heap.size (some ⟨p, 0, none⟩) frm to g1 g2 g3 (LI w1 h f frm t) (LX w r1 r2 r3 h f frm to t) := by
  refine ⟨?_, ?_, ?_, ?_⟩
  · rintro gf gl gt mm st last t' W ⟨rfl, hb, -⟩
    exact ⟨.inr ⟨p, _, rfl, (hz.below hb).tb⟩, fun e he => hz.sh e he⟩
  · rintro gf gl gt mm st last t' W ⟨rfl, hb, -⟩
    exact ⟨hp_below hi.t hb (hp_lt hi.t), hp_below hi.f hb (hp_lt hi.f), hp_below hi.e hb (hp_lt hi.e)⟩
  · rintro gf gl gt mm st last t' W W' S ⟨rfl, hb, hg, hm, hp, hl⟩ hk hS
    have hks := hk.size
    refine ⟨rfl, hb.trans (hk.below hb.size (fun k hk' hs => ?_)), hg, hm, hp, by omega, by omega, by omega⟩
    rcases hS k hs with e | e | e | ⟨e, -⟩ <;> omega
  · rintro W W' S ⟨e, h1, h2, h3, h4, h5⟩ hk hS
    have nc : ∀ j cs ty, W.heap[j]? = some (.cells cs ty (0, 0)) → ¬ S j := fun j cs ty hj hs => by
      obtain ⟨-, ob, ho, hc⟩ := hS j hs
      rw [hj] at ho
      cases ho
      cases hc
    refine ⟨e, h1, hp_kept h2 hk (nc _ _ _ h2), hp_kept h3 hk (nc _ _ _ h3), hp_kept h4 hk (nc _ _ _ h4), h5.trans (hk.below h5.size (fun k hk' hs => ?_))⟩
    have := (hS k hs).1
    omega
theorem ret_c3 {fn : Func} {p q r : Tmp} (h : fn.results = #[.cell p 9, .cell q 29, .cell r 4]) {tmps : Array Value} {a b c : Nat} {w : World} {x : ByteArray} {y : Pd} {z : Bool} (hp : tmps.getD p undef = .pointer (some ⟨a, 0, none⟩)) (hq : tmps.getD q undef = .pointer (some ⟨b, 0, none⟩)) (hr : tmps.getD r undef = .pointer (some ⟨c, 0, none⟩))
    (ha : w.heap[a]? = some (.cells #[.string x] 9 (0, 0))) (hb : w.heap[b]? = some (pdO y)) (hc : w.heap[c]? = some (.cells #[.bool z] 4 (0, 0))) :
    (results fn tmps).run Tryz.prog w = .ok (.tuple #[.string x, y.agg, .bool z]) w := by
  have hp2 := hp
  have hq2 := hq
  have hr2 := hr
  simp only [Array.getD_eq_getD_getElem?] at hp2 hq2 hr2
  have d1 := cells1 ha
  obtain ⟨d2, d3, d4⟩ := cells3 hb
  have d5 := cells1 hc
  simp only [results, h]
  simp [hp2, hq2, hr2, asAddr, go_sem, d1, d2, d3, d4, d5]
theorem keepsFrom_below {B : Nat} {W W' : World} (h : Below W.heap.size W W') : KeepsFrom B W W' := ⟨h.size, fun j _ob _ h1 _ => (h.block j (hp_lt h1)).trans h1⟩
theorem ZS.slot {w : World} {p : Nat} {t : Tr} {f : Nat → Sd} {c : Int} {m : Bool} (h : ZS w p t f c m) {b : Nat} {k : ByteArray} {v : Value} (he : (b, k, v) ∈ t.toL) : ∃ sb, v = .pointer (some ⟨sb, 0, none⟩) ∧ Sl w sb (f sb) := h.sl _ he
theorem five_boxes {W : World} {r1 r2 r3 : Nat} {a b c d e : Value} {t1 t2 t3 : TypeId} (y1 : W.heap[r1]? = some (.cells #[a] t1 (0, 0))) (y2 : W.heap[r2]? = some (.cells #[b, c, d] t2 (0, 0))) (y3 : W.heap[r3]? = some (.cells #[e] t3 (0, 0))) (x12 : r1 ≠ r2) (x13 : r1 ≠ r3) (x23 : r2 ≠ r3) (a' b' c' d' e' : Value) :
    (((((W.setCell ⟨r1, 0, none⟩ a').setCell ⟨r2, 0, none⟩ b').setCell ⟨r2, 1, none⟩ c').setCell ⟨r2, 2, none⟩ d').setCell ⟨r3, 0, none⟩ e').heap[r1]? = some (.cells #[a'] t1 (0, 0)) ∧
    (((((W.setCell ⟨r1, 0, none⟩ a').setCell ⟨r2, 0, none⟩ b').setCell ⟨r2, 1, none⟩ c').setCell ⟨r2, 2, none⟩ d').setCell ⟨r3, 0, none⟩ e').heap[r2]? = some (.cells #[b', c', d'] t2 (0, 0)) ∧
    (((((W.setCell ⟨r1, 0, none⟩ a').setCell ⟨r2, 0, none⟩ b').setCell ⟨r2, 1, none⟩ c').setCell ⟨r2, 2, none⟩ d').setCell ⟨r3, 0, none⟩ e').heap[r3]? = some (.cells #[e'] t3 (0, 0)) ∧
    (∀ g, g ≠ r1 → g ≠ r2 → g ≠ r3 → (((((W.setCell ⟨r1, 0, none⟩ a').setCell ⟨r2, 0, none⟩ b').setCell ⟨r2, 1, none⟩ c').setCell ⟨r2, 2, none⟩ d').setCell ⟨r3, 0, none⟩ e').heap[g]? = W.heap[g]?) ∧
    ∀ B w0, Below B w0 W → B ≤ r1 → B ≤ r2 → B ≤ r3 → Below B w0 (((((W.setCell ⟨r1, 0, none⟩ a').setCell ⟨r2, 0, none⟩ b').setCell ⟨r2, 1, none⟩ c').setCell ⟨r2, 2, none⟩ d').setCell ⟨r3, 0, none⟩ e') := by
  refine ⟨?_, ?_, ?_, ?_, ?_⟩
  · exact hp_set (hp_set (hp_set (hp_set (set_block (i := 0) y1 a') x12 b' (p := ⟨r2, 0, none⟩)) x12 c' (p := ⟨r2, 1, none⟩)) x12 d' (p := ⟨r2, 2, none⟩)) x13 e' (p := ⟨r3, 0, none⟩)
  · exact hp_set (V.set3 (hp_set y2 (Ne.symm x12) a' (p := ⟨r1, 0, none⟩)) b' c' d') x23 e' (p := ⟨r3, 0, none⟩)
  · exact set_block (i := 0) (hp_set (hp_set (hp_set (hp_set y3 (Ne.symm x13) a' (p := ⟨r1, 0, none⟩)) (Ne.symm x23) b' (p := ⟨r2, 0, none⟩)) (Ne.symm x23) c' (p := ⟨r2, 1, none⟩)) (Ne.symm x23) d' (p := ⟨r2, 2, none⟩)) e'
  · intro g g1 g2 g3
    rw [Below.heap_setCell _ _ _ _ (show g ≠ r3 from g3), Below.heap_setCell _ _ _ _ (show g ≠ r2 from g2), Below.heap_setCell _ _ _ _ (show g ≠ r2 from g2), Below.heap_setCell _ _ _ _ (show g ≠ r2 from g2), Below.heap_setCell _ _ _ _ (show g ≠ r1 from g1)]
  · intro B w0 h h1 h2 h3
    exact ((((h.setCell (p := ⟨r1, 0, none⟩) h1 _).setCell (p := ⟨r2, 0, none⟩) h2 _).setCell (p := ⟨r2, 1, none⟩) h2 _).setCell (p := ⟨r2, 2, none⟩) h2 _).setCell (p := ⟨r3, 0, none⟩) h3 _
set_option maxHeartbeats 4000000 in
theorem least46 (p : Nat) (frm to : ByteArray) (t : Tr) (f : Nat → Sd) (c : Int) (m : Bool) (w : World) (h : ZS w p t f c m) (h1 : frm.size ≤ 281474976710656) (h2 : to.size ≤ 281474976710656) :
    Calls Tryz.prog 48 #[.pointer (some ⟨p, 0, none⟩), .string frm, .string to, .func (.func 46) #[] #[]] w fun x w' => x = .returned (leastV f frm to t.toL) ∧ Below w.heap.size w w' := by
  have RG := hid (fun W => range_any (some ⟨p, 0, none⟩) frm to W h1 h2)
  have HZ := hid h
  generalize hP : (fun (x : Ending) (w' : World) => x = .returned (leastV f frm to t.toL) ∧ Below w.heap.size w w') = P
  have HP := hid hP
  clear hP h h1 h2
  refine (callsIn_wide (n := 9)).1 (callsIn_of_wp_marks Tryz.func48 rfl trivial (wpIn_wide.2 ?_))
  simp only [Tryz.ntmps48, List.size_toArray, List.length_cons, List.length_nil, Nat.reduceAdd, Nat.reduceSub, Array.replicate_succ, Array.replicate_zero, List.push_toArray, List.append_toArray, List.nil_append, List.cons_append]
  go_wp2_with (
    go_at_call 85
    refine (RG.out _).mono ?_
    rintro e w1 ⟨g1, g2, g3, rfl, hi, hb, q1, q2, q3⟩
    have N1 := hid (And.intro hi hb)
    clear hi hb q1 q2 q3)
  obtain ⟨a0, a1, a2, a3, ab⟩ := four w (Obj.cells #[Value.func (Fn.func 46) #[] #[]] 123) (Obj.cells #[Value.string { data := #[] }] 9) (Obj.cells #[.int .i64 0, .int .i64 0, .string ⟨#[]⟩] 29) (Obj.cells #[Value.bool false] 4)
  obtain ⟨hi, hb⟩ := N1.out
  clear N1 RG
  have d0 := hp_below a0 hb (hp_lt a0)
  have d1 := hp_below a1 hb (hp_lt a1)
  have d2 := hp_below a2 hb (hp_lt a2)
  have d3 := hp_below a3 hb (hp_lt a3)
  have BB := hid (below_on ab hb)
  clear a0 a1 a2 a3 ab hb
  have n1 : w.heap.size ≤ w.heap.size + 1 := by omega
  have n2 : w.heap.size ≤ w.heap.size + 1 + 1 := by omega
  have n3 : w.heap.size ≤ w.heap.size + 1 + 1 + 1 := by omega
  generalize w.heap.size + 1 + 1 + 1 = r3 at d3 n3 ⊢
  generalize w.heap.size + 1 + 1 = r2 at d2 n2 ⊢
  generalize w.heap.size + 1 = r1 at d1 n1 ⊢
  have hr0 : w.heap.size ≤ w.heap.size := Nat.le_refl _
  generalize hr0e : w.heap.size = r0 at d0 ⊢
  have Z1 := HZ.out.below BB.out
  have x12 : r1 ≠ r2 := by intro e; subst e; rw [d1] at d2; cases d2
  have x13 : r1 ≠ r3 := by intro e; subst e; rw [d1] at d3; cases d3
  have x23 : r2 ≠ r3 := by intro e; subst e; rw [d2] at d3; cases d3
  have HI : Hid (RangeI w1.heap.size (some ⟨p, 0, none⟩) frm to g1 g2 g3 (LI w1 false f frm t) (LX w r1 r2 r3 false f frm to t)) := hid (leastI Z1 hi BB.out.size)
  refine rangeY (o := some ⟨p, 0, none⟩) (frm := frm) (to := to) (g1 := g1) (g2 := g2) (g3 := g3) rfl rfl (I := LI w1 false f frm t) (Ix := LX w r1 r2 r3 false f frm to t) HI.out (ahd false frm t.toL) t hi
    (fun gf gl gt w2 hb q1 q2 q3 sb => ⟨rfl, hb, ⟨q1, q2, q3⟩, rfl, passed_start _ _ _ _, hp_lt sb.f, hp_lt sb.l, hp_lt sb.t⟩)
    (fun k v => { tmps := #[.pointer (some ⟨p, 0, none⟩), .string frm, .string to, .func (.func 46) #[] #[], undef, undef, undef, .pointer (some ⟨r0, 0, none⟩), .pointer (some ⟨r1, 0, none⟩), .pointer (some ⟨r2, 0, none⟩), .pointer (some ⟨r3, 0, none⟩), .string k, v, undef, undef, .pointer (some ⟨p, 0, none⟩), .bool false, undef, undef, undef, .pointer (some ⟨p, 0, none⟩), .pointer (some ⟨p, 0, none⟩), .pointer (some ⟨p, 0, none⟩), .string frm, .string to, itV g1 g2 g3, .string k, v, undef, undef, undef, undef, undef, undef, undef, undef, undef, undef, undef, undef], defers := [] }) ?assign ?body ?done ?stop
  case assign =>
    intro n l k v W K hK
    gi_wp2
    exact hK
  case body =>
    rintro n l gf gl gt mm st last t' W b k v ⟨rfl, hB, hg, rfl, hpa, hlt⟩ hq ht
    have Z2 := Z1.below hB
    obtain ⟨sb, rfl, hsl⟩ := Z2.slot (nx_mem hq)
    have c0 := cells1 (hp_below d0 hB (hp_lt d0))
    have SE := hid (seeR_any sb (f sb) W hsl)
    have y1 := hp_below d1 hB (hp_lt d1)
    have y2 := hp_below d2 hB (hp_lt d2)
    have y3 := hp_below d3 hB (hp_lt d3)
    have l1 := hp_lt d1
    have l2 := hp_lt d2
    have l3 := hp_lt d3
    have rs : Rises t'.toL := Z1.tb.rs
    have NN := hid (And.intro hB (And.intro hg (And.intro hpa (And.intro hq (And.intro ht (And.intro y1 (And.intro y2 (And.intro y3 (And.intro rs (And.intro l1 (And.intro l2 (And.intro l3 hlt))))))))))))
    have BW := hid (And.intro BB.out (And.intro hr0e (And.intro n1 (And.intro n2 n3))))
    generalize hPP : RangePost w1.heap.size gf gl gt (ahd st last t'.toL) k (LI w1 false f frm t') (LX w r1 r2 r3 false f frm to t') W = PP
    have HPP := hid hPP
    clear hPP hB hg hpa hlt hq ht hsl Z2 d0 d1 d2 d3 hi HZ HI Z1 y1 y2 y3 rs l1 l2 l3 n1 n2 n3 BB hr0 hr0e
    cases hs : (see false (f sb)).2
    · have HS := hid hs
      rw [hs] at SE
      clear hs
      gi_wp2_with (
        refine ⟨trivial, fun hd => (by cases hd), ?_⟩
        gi_at_call 46
        refine (CallsIn.inRound l (callsIn_wide.2 SE.out)).mono ?_
        rintro e w2 ⟨rfl, hb2⟩
        have H2 := hid hb2
        clear hb2)
      rw [← HPP.out]
      obtain ⟨hB, hg, hpa, hq, ht, y1, y2, y3, rs, l1, l2, l3, hlt⟩ := NN.out
      have hb3 := H2.out.alloc H2.out.size (pdO (see false (f sb)).1)
      exact ⟨keepsFrom_below hb3, ⟨hb3.block _ hlt.1, hb3.block _ hlt.2.1, hb3.block _ hlt.2.2⟩, ahd true k t'.toL, t', ahd_less hq, rfl, hB.trans (hb3.mono hB.size), hg, rfl, passed_on rs hpa hq HS.out, Nat.lt_of_lt_of_le hlt.1 hb3.size, Nat.lt_of_lt_of_le hlt.2.1 hb3.size, Nat.lt_of_lt_of_le hlt.2.2 hb3.size⟩
    · have HS := hid hs
      rw [hs] at SE
      clear hs
      gi_wp2_with (
        refine ⟨trivial, fun hd => (by cases hd), ?_⟩
        gi_at_call 46
        refine (CallsIn.inRound l (callsIn_wide.2 SE.out)).mono ?_
        rintro e w2 ⟨rfl, hb2⟩
        have H2 := hid hb2
        obtain ⟨c1, c2, c3, c4, c5, f1, f2, f3, l1, l2, l3⟩ := (show _ ∧ _ ∧ _ ∧ _ ∧ _ ∧ _ ∧ _ ∧ _ ∧ _ ∧ _ ∧ _ from by
          obtain ⟨hB, hg, hpa, hq, ht, y1, y2, y3, rs, -⟩ := NN.out
          have y1' := hp_below y1 hb2 (hp_lt y1)
          have y2' := hp_below y2 hb2 (hp_lt y2)
          have y3' := hp_below y3 hb2 (hp_lt y3)
          obtain ⟨e0, e1, e2⟩ := cells3 y2'
          exact ⟨cells1 y1', e0, e1, e2, cells1 y3', fun j => free_of_block (o := j) y1', fun j => free_of_block (o := j) y2', fun j => free_of_block (o := j) y3', hp_lt y1', hp_lt y2', hp_lt y3'⟩)
        clear hb2)
      gi_region
      all_goals
        gi_wp2
        rw [← HPP.out]
        obtain ⟨hB, hg, hpa, hq, ht, y1, y2, y3, rs, k1, k2, k3, hlt⟩ := NN.out
        obtain ⟨hBB, rfl, n1, n2', n3⟩ := BW.out
        have y1' := hp_below y1 H2.out (hp_lt y1)
        have y2' := hp_below y2 H2.out (hp_lt y2)
        have y3' := hp_below y3 H2.out (hp_lt y3)
        obtain ⟨z1, z2, z3, zo, zb⟩ := five_boxes y1' y2' y3' x12 x13 x23 (.string k) (.int .i64 (see false (f sb)).1.n) (.int .i64 (see false (f sb)).1.a) (.string (see false (f sb)).1.ao) (.bool true)
        have hsz := H2.out.size
        have NE : ∀ g, w1.heap.size ≤ g → g ≠ r1 ∧ g ≠ r2 ∧ g ≠ r3 := fun g hg => ⟨by omega, by omega, by omega⟩
        have EQ : ∀ g, w1.heap.size ≤ g → g < W.heap.size → (((((((w2.setCell ⟨r1, 0, none⟩ (.string k)).setCell ⟨r2, 0, none⟩ (.int .i64 (see false (f sb)).1.n)).setCell ⟨r2, 1, none⟩ (.int .i64 (see false (f sb)).1.a)).setCell ⟨r2, 2, none⟩ (.string (see false (f sb)).1.ao)).setCell ⟨r3, 0, none⟩ (.bool true)).alloc (pdO (see false (f sb)).1)).drew).heap[g]? = W.heap[g]? := fun g hg hl => by
          have h1 := zo g (NE g hg).1 (NE g hg).2.1 (NE g hg).2.2
          rw [show ∀ X : World, (X.alloc (pdO (see false (f sb)).1)).drew.heap[g]? = (X.alloc (pdO (see false (f sb)).1)).heap[g]? from fun _ => rfl, Below.heap_alloc _ _ _ (by simp; omega), h1, H2.out.block g hl]
        refine ⟨((keepsFrom_below H2.out).trans (((KeepsOthers.setCell _ _ _).from _).trans (((KeepsOthers.setCell _ _ _).from _).trans (((KeepsOthers.setCell _ _ _).from _).trans (((KeepsOthers.setCell _ _ _).from _).trans ((KeepsOthers.setCell _ _ _).from _)))))).trans (keepsFrom_below ((below_new _ _).drew)), ⟨EQ gf hg.1 hlt.1, EQ gl hg.2.1 hlt.2.1, EQ gt hg.2.2 hlt.2.2⟩, (b, k, .pointer (some ⟨sb, 0, none⟩)), least_found rs hpa hq ht HS.out, hp_alloc z1 _, hp_alloc z2 _, hp_alloc z3 _, ?_⟩
        have hbw := hBB.trans ((hB.trans (H2.out.mono hB.size)).mono hBB.size)
        have hbz := zb _ _ hbw n1 n2' n3
        exact (hbz.alloc hbz.size _).drew
  case done =>
    rintro D W gf gl gt mm st last t' hD ⟨rfl, hB, hg, rfl, hpa, -⟩ hE hK
    have hw0 := BB.out.size
    have y1 := hp_below d1 hB (hp_lt d1)
    have y2 := hp_below d2 hB (hp_lt d2)
    have y3 := hp_below d3 hB (hp_lt d3)
    have c1 := cells1 y1
    obtain ⟨c2, c22, c23⟩ := cells3 y2
    have c3 := cells1 y3
    have f1 : ∀ j, W.frozen? ⟨r1, j, none⟩ = false := fun j => free_of_block y1
    have f2 : ∀ j, W.frozen? ⟨r2, j, none⟩ = false := fun j => free_of_block y2
    have f3 : ∀ j, W.frozen? ⟨r3, j, none⟩ = false := fun j => free_of_block y3
    have l1 := hp_lt d1
    have l2 := hp_lt d2
    have l3 := hp_lt d3
    have e0 : leastE false f frm to t'.toL = none := least_none Z1.tb.rs hpa hE
    have NN := hid (And.intro e0 (And.intro hB (And.intro hD (And.intro hK (And.intro y1 (And.intro y2 (And.intro y3 (And.intro l1 (And.intro l2 l3)))))))))
    have BW := hid (And.intro BB.out (And.intro hr0e (And.intro n1 (And.intro n2 n3))))
    have BQ := hid hw0
    clear hB hg hpa hE Z1 d0 d1 d2 d3 hi HZ HI y1 y2 y3 n1 n2 n3 BB hr0 hr0e e0 hD hK l1 l2 l3 hw0
    have m1 := hp_lt NN.out.2.2.2.2.1
    have m2 := hp_lt NN.out.2.2.2.2.2.1
    have m3 := hp_lt NN.out.2.2.2.2.2.2.1
    simp only [Exit.inBlock, Exit.then]
    go_wp2
    go_region
    all_goals
      obtain ⟨e0, hB, hD, hK, y1, y2, y3, l1, l2, l3⟩ := NN.out
      obtain ⟨hBB, rfl, n1, n2, n3⟩ := BW.out
      obtain ⟨z1, z2, z3, zo, zb⟩ := five_boxes y1 y2 y3 x12 x13 x23 (.string ⟨#[]⟩) (.int .i64 0) (.int .i64 0) (.string ⟨#[]⟩) (.bool false)
      have zK := (zo D (by omega) (by omega) (by omega)).trans hK
      have hBW := hBB.trans (hB.mono hBB.size)
      have hbz := zb _ _ hBW n1 n2 n3
      have zB := (hbz.alloc hbz.size (Obj.cells #[Value.int IntKind.i64 0, Value.int IntKind.i64 0, Value.string { data := #[] }] 29)).drew
      have z1 := hp_alloc z1 (Obj.cells #[Value.int IntKind.i64 0, Value.int IntKind.i64 0, Value.string { data := #[] }] 29)
      have z2 := hp_alloc z2 (Obj.cells #[Value.int IntKind.i64 0, Value.int IntKind.i64 0, Value.string { data := #[] }] 29)
      have z3 := hp_alloc z3 (Obj.cells #[Value.int IntKind.i64 0, Value.int IntKind.i64 0, Value.string { data := #[] }] 29)
      have zK := hp_alloc zK (Obj.cells #[Value.int IntKind.i64 0, Value.int IntKind.i64 0, Value.string { data := #[] }] 29)
      generalize ((((((W.setCell ⟨r1, 0, none⟩ (.string ⟨#[]⟩)).setCell ⟨r2, 0, none⟩ (.int .i64 0)).setCell ⟨r2, 1, none⟩ (.int .i64 0)).setCell ⟨r2, 2, none⟩ (.string ⟨#[]⟩)).setCell ⟨r3, 0, none⟩ (.bool false)).alloc (Obj.cells #[Value.int IntKind.i64 0, Value.int IntKind.i64 0, Value.string { data := #[] }] 29)) = W4 at z1 z2 z3 zK zB ⊢
      have ZZ := hid (And.intro z1 (And.intro z2 (And.intro z3 (And.intro zK zB))))
      clear z1 z2 z3 zK zB y1 y2 y3 hK hB hBB hBW zo zb hbz
      have hw0 := BQ.out
      go_wp2
      obtain ⟨z1, z2, z3, zK, zB⟩ := ZZ.out
      refine ⟨by simp, .inl ⟨_, _, rfl, run_takeDeferred (w := W4.drew) zK, ?_⟩⟩
      refine ⟨_, ret_c3 (y := zPd) Tryz.results48 rfl rfl rfl ((put_off _ (by omega)).trans z1) ((put_off _ (by omega)).trans z2) ((put_off _ (by omega)).trans z3), ?_⟩
      rw [← HP.out]
      refine ⟨by unfold leastV; rw [e0], zB.trans ((kept_put W4.drew D _).below zB.size (fun k hk e => by omega))⟩
  case stop =>
    rintro D W hD ⟨e, h1, h2, h3, h4, h5⟩ hK
    have l1 := hp_lt d1
    have l2 := hp_lt d2
    have l3 := hp_lt d3
    have hw0 := BB.out.size
    simp only [Exit.inBlock, Exit.then]
    refine ⟨by simp, .inl ⟨_, _, rfl, run_takeDeferred hK, ?_⟩⟩
    refine ⟨_, ret_c3 Tryz.results48 rfl rfl rfl ((put_off _ (by omega)).trans h2) ((put_off _ (by omega)).trans h3) ((put_off _ (by omega)).trans h4), ?_⟩
    rw [← HP.out]
    refine ⟨by unfold leastV; rw [h1], h5.trans ((kept_put W D _).below h5.size (fun k hk e => by omega))⟩
set_option maxHeartbeats 1600000 in
theorem snext_any (o : Option Addr) (above k : ByteArray) (v : Pd) (q : Bool) (w : World) (h1 : above.size ≤ 281474976710000)
    (hL : Calls Tryz.prog 48 #[.pointer o, .string (bhd above), .string ⟨#[]⟩, .func (.func 46) #[] #[]] w fun x w' => x = .returned (.tuple #[.string k, v.agg, .bool q]) ∧ Below w.heap.size w w') :
    Calls Tryz.prog 29 #[.pointer o, .string above] w fun x w' => x = .returned (.tuple #[.string k, .bool q]) ∧ Below w.heap.size w w' := by
  have B1 := hid (fun W => behind_any above W h1)
  have LL := hid hL
  clear h1 hL
  go_enter Tryz.func29, Tryz.ntmps29
  go_wp2_with (first
    | (go_at_call 49
       refine (B1.out _).mono ?_
       rintro e w1 ⟨rfl, e1⟩
       rw [e1]
       clear e1 w1)
    | (go_at_call 48
       refine LL.out.mono ?_
       rintro e w3 ⟨rfl, hb⟩
       have H3 := hid hb
       clear hb))
  go_ret2
  exact ⟨rfl, H3.out.alloc H3.out.size _⟩
end Go.Proofs.YthcoigbkdbkojabGreat.V
namespace Go.Proofs.YthcoigbkdbkojabGreat
open Go.RowKit
theorem hid {p : Prop} (h : p) : Hid p := h
structure Kept (S : Nat → Prop) (w w' : World) : Prop where
  os : w'.os = w.os
  tape : w'.tape = w.tape
  output : w'.output = w.output
  size : w.heap.size ≤ w'.heap.size
  block : ∀ k, k < w.heap.size → ¬ S k → w'.heap[k]? = w.heap[k]?
theorem Kept.refl (S : Nat → Prop) (w : World) : Kept S w w := ⟨rfl, rfl, rfl, Nat.le_refl _, fun _ _ _ => rfl⟩
theorem Kept.trans {S S' : Nat → Prop} {a b c : World} (h : Kept S a b) (k : Kept S' b c) (hs : ∀ i, i < a.heap.size → S' i → S i) : Kept S a c :=
  ⟨k.os.trans h.os, k.tape.trans h.tape, k.output.trans h.output, Nat.le_trans h.size k.size,
   fun i hi hn => (k.block i (Nat.lt_of_lt_of_le hi h.size) (fun hx => hn (hs i hi hx))).trans (h.block i hi hn)⟩
theorem Kept.mono {S S' : Nat → Prop} {a b : World} (h : Kept S a b) (hs : ∀ i, i < a.heap.size → S i → S' i) : Kept S' a b :=
  ⟨h.os, h.tape, h.output, h.size, fun i hi hn => h.block i hi (fun hx => hn (hs i hi hx))⟩
theorem Kept.drew {S : Nat → Prop} {a w : World} (h : Kept S a w) : Kept S a w.drew := ⟨h.os, h.tape, h.output, h.size, h.block⟩
theorem Kept.alloc {S : Nat → Prop} {a w : World} (h : Kept S a w) (o : Obj) : Kept S a (w.alloc o) :=
  h.trans (S' := fun _ => False) ⟨rfl, rfl, rfl, by simp, fun k hk _ => Below.heap_alloc _ _ _ hk⟩ (fun _ _ h => h.elim)
theorem Kept.setCell {S : Nat → Prop} {a w : World} (h : Kept S a w) {p : Addr} (hp : p.block < a.heap.size → S p.block) (u : Value) : Kept S a (w.setCell p u) :=
  h.trans (S' := fun k => k = p.block) ⟨rfl, rfl, rfl, by simp [World.setCell], fun k _ hn => Below.heap_setCell _ _ _ _ hn⟩ (fun i hi e => by subst e; exact hp hi)
theorem Kept.grown {S : Nat → Prop} {a w w' : World} {row : Option Nat} (h : Kept S a w) (hg : w.grownBy w' row) (hr : ∀ k, k < a.heap.size → row = some k → S k) : Kept S a w' :=
  h.trans (S' := fun k => row = some k) ⟨hg.os, hg.tape, hg.output, hg.size, fun k hk hn => hg.block k hk (fun e => hn e.symm)⟩ hr
theorem Kept.below {S : Nat → Prop} {a w : World} {B : Nat} (h : Kept S a w) (hB : B ≤ a.heap.size) (hs : ∀ k, k < B → ¬ S k) : Below B a w :=
  ⟨h.os, h.tape, h.output, h.size, fun k hk => h.block k (Nat.lt_of_lt_of_le hk hB) (hs k hk)⟩
theorem Kept.ofBelow {a w : World} (h : Below a.heap.size a w) : Kept (fun _ => False) a w :=
  ⟨h.os, h.tape, h.output, h.size, fun k hk _ => h.block k hk⟩
theorem Kept.cell {S : Nat → Prop} {a w : World} (h : Kept S a w) {p : Addr} {v : Value} (hc : a.cell? p = some v) (hn : ¬ S p.block) : w.cell? p = some v :=
  (World.cell?_of_block (h.block p.block (World.block_lt_of_cell? a p hc) hn)).trans hc
abbrev B8 (l : List Int) : List Value := l.map (Value.int .u8)
theorem Tryz.info5 : (Tryz.prog.info? 5).map (fun i => (i.zero, i.size, i.bytes)) = some (some (.int .u8 0), 1, 1) := by kernel_rfl
theorem ownsRow_kept {w w' : World} {B : Nat} {e : TypeId} {size : Nat} {v : Value} {n : Nat} {xs : List Value} {S : Nat → Prop} (h : w.ownsRow B e size v n xs) (hk : Kept S w w')
    (hn : ∀ k, v.ownBlock = some k → ¬ S k) : w'.ownsRow B e size v n xs := by
  refine ⟨h.1, ?_⟩
  rcases h.2 with hn' | ⟨g, cap, cur, rfl, hb, hgg, rest⟩
  · exact .inl hn'
  · refine .inr ⟨g, cap, cur, rfl, hb, ?_, rest⟩
    rw [hk.block g (Array.getElem?_eq_some_iff.1 hgg).1 (hn g rfl)]
    exact hgg
theorem free_of_block {w : World} {p o : Nat} {cs : Array Value} {t : TypeId} (h : w.heap[p]? = some (.cells cs t (0, 0))) : w.frozen? ⟨p, o, none⟩ = false := by
  simp [World.frozen?, h]
theorem heap_setCell_same {w : World} {p : Nat} {a b x : Value} {t : TypeId} (h : w.heap[p]? = some (.cells #[a, b] t (0, 0))) : (w.setCell ⟨p, 0, none⟩ x).heap[p]? = some (.cells #[x, b] t (0, 0)) := by
  simp [World.setCell, Array.getElem?_modify, h]
abbrev vl (k i : Int) (s : ByteArray) : Value := .agg #[.int .i64 k, .int .i64 i, .string s]
def thing (k i : Int) (s : ByteArray) : Value := if k = 1 then .iface 162 (.int .i64 i) else if k = 2 then .iface 163 (.string s) else .nilIface
theorem thing1 (i : Int) (s : ByteArray) : thing 1 i s = .iface 162 (.int .i64 i) := rfl
theorem thing2 (i : Int) (s : ByteArray) : thing 2 i s = .iface 163 (.string s) := rfl
theorem thing0 {k : Int} (i : Int) (s : ByteArray) (h1 : k ≠ 1) (h2 : k ≠ 2) : thing k i s = .nilIface := by simp [thing, h1, h2]
theorem below1 (w : World) (o : Obj) : Below w.heap.size w (w.alloc o) := (Below.refl _ w).alloc (Nat.le_refl _) o
theorem vfacts {w : World} {r : Nat} {a b c : Value} {t : TypeId} (h : w.heap[r]? = some (.cells #[a, b, c] t (0, 0))) :
    w.cell? ⟨r, 0, none⟩ = some a ∧ w.cell? ⟨r, 1, none⟩ = some b ∧ w.cell? ⟨r, 2, none⟩ = some c ∧ ∀ o, w.frozen? ⟨r, o, none⟩ = false := by
  refine ⟨?_, ?_, ?_, fun o => by simp [World.frozen?, h]⟩ <;> (rw [cell_of_row w _ _ _ _ _ h]; rfl)
theorem blk_of {B : Nat} {w w1 : World} {r : Nat} {o : Obj} (h : Below B w w1) (hr : w.heap[r]? = some o) (hB : r < B) : w1.heap[r]? = some o := (h.block r hB).trans hr
theorem lt_of {w : World} {r : Nat} {o : Obj} (h : w.heap[r]? = some o) : r < w.heap.size := (Array.getElem?_eq_some_iff.1 h).1
theorem two1 (w : World) (o p : Obj) : ((w.alloc o).alloc p).heap[w.heap.size]? = some o := by
  rw [Below.heap_alloc _ _ _ (by simp)]; exact heap_alloc_new w o
theorem two2 (w : World) (o p : Obj) : ((w.alloc o).alloc p).heap[w.heap.size + 1]? = some p := by
  have := heap_alloc_new (w.alloc o) p
  simpa using this
theorem below2 (w : World) (o p : Obj) : Below w.heap.size w ((w.alloc o).alloc p) := (below1 w o).alloc (by simp) p
theorem set3 {w : World} {r : Nat} {a b c : Value} {t : TypeId} (h : w.heap[r]? = some (.cells #[a, b, c] t (0, 0))) (x y z : Value) :
    (((w.setCell ⟨r, 0, none⟩ x).setCell ⟨r, 1, none⟩ y).setCell ⟨r, 2, none⟩ z).heap[r]? = some (.cells #[x, y, z] t (0, 0)) := by
  simp [World.setCell, Array.getElem?_modify, h]
theorem Below.set3 {B : Nat} {w w1 : World} {r : Nat} (h : Below B w w1) (hr : B ≤ r) (x y z : Value) : Below B w (((w1.setCell ⟨r, 0, none⟩ x).setCell ⟨r, 1, none⟩ y).setCell ⟨r, 2, none⟩ z) :=
  ((h.setCell (p := ⟨r, 0, none⟩) hr x).setCell (p := ⟨r, 1, none⟩) hr y).setCell (p := ⟨r, 2, none⟩) hr z
theorem load_agg {w : World} {r : Nat} {a b c : Value} (hb : w.heap[r]? = some (.cells #[a, b, c] 29 (0, 0))) : (loadVar 29 ⟨r, 0, none⟩).run Tryz.prog w = .ok (.agg #[a, b, c]) w := by
  obtain ⟨c0, c1, c2, _⟩ := vfacts hb
  simp [go_sem, c0, c1, c2]
theorem ret_agg {fn : Func} {p : Tmp} (h : fn.results = #[.cell p 29]) {tmps : Array Value} {r : Nat} {w : World} {a b c : Value} (ht : tmps.getD p undef = .pointer (some ⟨r, 0, none⟩)) (hb : w.heap[r]? = some (.cells #[a, b, c] 29 (0, 0))) :
    (results fn tmps).run Tryz.prog w = .ok (.agg #[a, b, c]) w := by
  have ht2 := ht
  simp only [Array.getD_eq_getD_getElem?] at ht2
  simp only [results, h]
  simp [ht2, load_agg hb, asAddr]
theorem ret_agg2 {fn : Func} {p u : Tmp} (h : fn.results = #[.cell p 29, .tmp u]) {tmps : Array Value} {r : Nat} {w : World} {a b c : Value} (ht : tmps.getD p undef = .pointer (some ⟨r, 0, none⟩)) (hb : w.heap[r]? = some (.cells #[a, b, c] 29 (0, 0))) :
    (results fn tmps).run Tryz.prog w = .ok (.tuple #[.agg #[a, b, c], tmps.getD u undef]) w := by
  rw [results_cell_tmp h, ht]
  simp [Result.andThen, load_agg hb, asAddr]
set_option maxHeartbeats 800000 in
theorem thingOf_any (k i : Int) (s : ByteArray) (w : World) : Calls Tryz.prog 62 #[vl k i s] w fun x w' => x = .returned (thing k i s) ∧ Below w.heap.size w w' := by
  have hb := hid (below1 w (Obj.cells #[Value.int IntKind.i64 k, Value.int IntKind.i64 i, Value.string s] 29))
  by_cases h1 : k = 1
  · subst h1
    go_enter Tryz.func62, Tryz.ntmps62
    go_wp2
    go_ret
    exact ⟨rfl, hb.out⟩
  · by_cases h2 : k = 2
    · subst h2
      go_enter Tryz.func62, Tryz.ntmps62
      go_wp2
      go_ret
      exact ⟨rfl, hb.out⟩
    · go_enter Tryz.func62, Tryz.ntmps62
      have e1 : (k == 1) = false := by simpa using h1
      have e2 : (k == 2) = false := by simpa using h2
      go_wp2
      go_ret
      exact ⟨by rw [thing0 i s h1 h2]; rfl, hb.out⟩
set_option maxHeartbeats 800000 in
theorem ivalue_any (i : Int) (w : World) : Calls Tryz.prog 145 #[.int .i64 i] w fun x w' => x = .returned (vl 1 i ⟨#[]⟩) ∧ Below w.heap.size w w' := by
  go_enter Tryz.func145, Tryz.ntmps145
  go_wp2
  go_returns
  exact ⟨rfl, below1 w _⟩
set_option maxHeartbeats 800000 in
theorem tvalue_any (s : ByteArray) (w : World) : Calls Tryz.prog 126 #[.string s] w fun x w' => x = .returned (vl 2 0 s) ∧ Below w.heap.size w w' := by
  go_enter Tryz.func126, Tryz.ntmps126
  go_wp2
  go_returns
  exact ⟨rfl, below1 w _⟩
def plainV (k i : Int) (s : ByteArray) : Value := if k = 1 then vl 1 i ⟨#[]⟩ else if k = 2 then vl 2 0 s else vl 0 0 ⟨#[]⟩
set_option maxHeartbeats 800000 in
theorem plain_any (k i : Int) (s : ByteArray) (w : World) : Calls Tryz.prog 40 #[vl k i s] w fun x w' => x = .returned (plainV k i s) ∧ Below w.heap.size w w' := by
  have hB0 := hid (below2 w (Obj.cells #[Value.int IntKind.i64 k, Value.int IntKind.i64 i, Value.string s] 29) (Obj.cells #[Value.int IntKind.i64 0, Value.int IntKind.i64 0, Value.string { data := #[] }] 29))
  have hR0 := hid (two2 w (Obj.cells #[Value.int IntKind.i64 k, Value.int IntKind.i64 i, Value.string s] 29) (Obj.cells #[Value.int IntKind.i64 0, Value.int IntKind.i64 0, Value.string { data := #[] }] 29))
  by_cases h1 : k = 1
  · subst h1
    go_enter Tryz.func40, Tryz.ntmps40
    go_wp2_with (first
      | (go_at_call 62
         refine (thingOf_any 1 i s _).mono ?_
         rintro e w1 ⟨rfl, hb1⟩
         rw [thing1]
         have H1 := hid (And.intro (blk_of hb1 hR0.out (by simp)) (hB0.out.trans (hb1.mono hB0.out.size)))
         clear hb1)
      | (go_at_call 145
         refine (ivalue_any i _).mono ?_
         rintro e w2 ⟨rfl, hb2⟩
         have hr2 := blk_of hb2 H1.out.1 (lt_of H1.out.1)
         obtain ⟨c0, c1, c2, ff⟩ := vfacts hr2
         have H2 := hid (And.intro hr2 (H1.out.2.trans (hb2.mono H1.out.2.size)))
         clear hb2 hr2))
    refine bodyPost_ret (ret_agg Tryz.results40 rfl (set3 H2.out.1 _ _ _)) rfl ?_
    exact ⟨rfl, Below.set3 H2.out.2 (by simp) _ _ _⟩
  · by_cases h2 : k = 2
    · subst h2
      go_enter Tryz.func40, Tryz.ntmps40
      go_wp2_with (first
        | (go_at_call 62
           refine (thingOf_any 2 i s _).mono ?_
           rintro e w1 ⟨rfl, hb1⟩
           rw [thing2]
           have H1 := hid (And.intro (blk_of hb1 hR0.out (by simp)) (hB0.out.trans (hb1.mono hB0.out.size)))
           clear hb1)
        | (go_at_call 126
           refine (tvalue_any s _).mono ?_
           rintro e w2 ⟨rfl, hb2⟩
           have hr2 := blk_of hb2 H1.out.1 (lt_of H1.out.1)
           obtain ⟨c0, c1, c2, ff⟩ := vfacts hr2
           have H2 := hid (And.intro hr2 (H1.out.2.trans (hb2.mono H1.out.2.size)))
           clear hb2 hr2))
      refine bodyPost_ret (ret_agg Tryz.results40 rfl (set3 H2.out.1 _ _ _)) rfl ?_
      exact ⟨rfl, Below.set3 H2.out.2 (by simp) _ _ _⟩
    · go_enter Tryz.func40, Tryz.ntmps40
      go_wp2_with (go_at_call 62
                   refine (thingOf_any k i s _).mono ?_
                   rintro e w1 ⟨rfl, hb1⟩
                   rw [thing0 i s h1 h2]
                   have hr1 := blk_of hb1 hR0.out (by simp)
                   obtain ⟨c0, c1, c2, ff⟩ := vfacts hr1
                   have H1 := hid (And.intro hr1 (hB0.out.trans (hb1.mono hB0.out.size)))
                   clear hb1 hr1)
      refine bodyPost_ret (ret_agg Tryz.results40 rfl (set3 H1.out.1 _ _ _)) rfl ?_
      exact ⟨by simp [plainV, h1, h2], Below.set3 H1.out.2 (by simp) _ _ _⟩
def chk (k i : Int) (s : ByteArray) : Int :=
  if k = 1 then (if s = ⟨#[]⟩ then 0 else 14) else if k = 2 then (if i = 0 then (if 256 < s.size then 4 else 0) else 14) else if k = 0 ∧ i = 0 ∧ s = ⟨#[]⟩ then 0 else 14
end Go.Proofs.YthcoigbkdbkojabGreat
