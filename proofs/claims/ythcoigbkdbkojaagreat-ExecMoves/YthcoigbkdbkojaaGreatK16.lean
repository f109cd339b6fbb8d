import Derived.Test.YthcoigbkdbkojaaGreatK15
import Derived.Test.YthcoigbkdbkojaaGreatK14
namespace Go.Proofs.YthcoigbkdbkojaaGreat
open Go.RowKit
open V (hp_new hp_lt hp_below hp_alloc)

theorem cells2f {w : World} {p : Nat} {a b : Value} {t : TypeId} (h : w.heap[p]? = some (.cells #[a, b] t (0, 0))) : w.cell? ⟨p, 0, none⟩ = some a ∧ w.cell? ⟨p, 1, none⟩ = some b ∧ ∀ o, w.frozen? ⟨p, o, none⟩ = false := by
  refine ⟨?_, ?_, fun o => free_of_block h⟩ <;> (rw [cell_of_row w p _ _ _ _ h]; rfl)
theorem cells4f {w : World} {p : Nat} {a b c d : Value} {t : TypeId} (h : w.heap[p]? = some (.cells #[a, b, c, d] t (0, 0))) : w.cell? ⟨p, 0, none⟩ = some a ∧ w.cell? ⟨p, 1, none⟩ = some b ∧ w.cell? ⟨p, 2, none⟩ = some c ∧ w.cell? ⟨p, 3, none⟩ = some d := by
  refine ⟨?_, ?_, ?_, ?_⟩ <;> (rw [cell_of_row w p _ _ _ _ h]; rfl)

theorem set2f {w : World} {r : Nat} {a b : Value} {t : TypeId} (h : w.heap[r]? = some (.cells #[a, b] t (0, 0))) (x y : Value) :
    ((w.setCell ⟨r, 0, none⟩ x).setCell ⟨r, 1, none⟩ y).heap[r]? = some (.cells #[x, y] t (0, 0)) := by
  simp [World.setCell, Array.getElem?_modify, h]

set_option maxRecDepth 100000 in
theorem load33 {w : World} {r : Nat} {a b : Value} (hb : w.heap[r]? = some (.cells #[a, b] 33 (0, 0))) : (loadVar 33 ⟨r, 0, none⟩).run Tryz.prog w = .ok (.agg #[a, b]) w := by
  obtain ⟨c0, c1, -⟩ := cells2f hb
  simp [go_sem, c0, c1]

set_option maxRecDepth 100000 in
theorem ret33 {fn : Func} {p : Tmp} (h : fn.results = #[.cell p 33]) {tmps : Array Value} {r : Nat} {w : World} {a b : Value} (ht : tmps.getD p undef = .pointer (some ⟨r, 0, none⟩)) (hb : w.heap[r]? = some (.cells #[a, b] 33 (0, 0))) :
    (results fn tmps).run Tryz.prog w = .ok (.agg #[a, b]) w := by
  have ht2 := ht
  simp only [Array.getD_eq_getD_getElem?] at ht2
  simp only [results, h]
  simp [ht2, load33 hb, asAddr]

set_option maxRecDepth 100000 in
set_option maxHeartbeats 3200000 in
theorem rput_any (v : Value) (pa : Option Addr) (pn pc : Nat) (x : ByteArray × Vd) (l : List (ByteArray × Vd)) (w : World) (h : Rf w 4 v l.length (l.flatMap ecs)) (hl : l.length ≤ 1000) (h0 : x.2.k ≠ 0) :
    Calls Tryz.prog 18 #[.agg #[v, .slice pa pn pc], .agg (eca x)] w fun e w' => ∃ a c, e = .returned (.agg #[.slice a (putE x l).length c, .slice pa pn pc]) ∧ w'.ownsRow (w.heap.size + 3) 54 4 (.slice a (putE x l).length c) (putE x l).length ((putE x l).flatMap ecs) ∧ Below w.heap.size w w' := by
  obtain ⟨ao, cap, rfl, -, -⟩ := h.shape
  obtain ⟨hA, hB, hC, hb0⟩ := three w (.cells #[.slice ao l.length cap, .slice pa pn pc] 33) (.cells (eca x) 54) (.cells #[.slice none 0 0, .slice none 0 0] 33)
  have es : (((w.alloc (.cells #[.slice ao l.length cap, .slice pa pn pc] 33)).alloc (.cells (eca x) 54)).alloc (.cells #[.slice none 0 0, .slice none 0 0] 33)).heap.size = w.heap.size + 3 := by simp
  have HP := hid (put_any (.slice ao l.length cap) x l _ (h.below hb0) hl h0)
  rw [es] at HP
  have H := hid (And.intro hA (And.intro hC hb0))
  clear h hA hB hC hb0
  obtain ⟨xk, kk, ki, kt⟩ := x
  go_enter Tryz.func18, Tryz.ntmps18
  go_wp2_with (first
    | (go_at_call 43
       refine HP.out.mono ?_
       rintro e w1 ⟨v1, rfl, ho, hb1⟩
       obtain ⟨a1, c1, rfl⟩ := own_shape ho
       have hA1 := blk_of hb1 H.out.1 (by rw [← es]; exact hp_lt H.out.1)
       have hC1 := blk_of hb1 H.out.2.1 (by rw [← es]; exact hp_lt H.out.2.1)
       obtain ⟨f0, f1, f2⟩ := cells2f hA1
       obtain ⟨g0, g1, g2⟩ := cells2f hC1
       have hz1 := hp_lt hA1
       have hz2 := hp_lt hC1
       have H1 := hid (And.intro ho (And.intro (H.out.2.2.trans (hb1.mono (by omega))) (And.intro hA1 hC1)))
       clear ho hb1 hA1 hC1))
  have hne : w.heap.size + 1 + 1 ≠ w.heap.size := by omega
  refine bodyPost_ret (ret33 Tryz.results18 rfl (set2f (V.hp_set H1.out.2.2.2 (p := ⟨w.heap.size, 0, none⟩) hne _) _ _)) rfl ?_
  generalize hn : (putE (xk, ⟨kk, ki, kt⟩) l).length = N at *
  have K : Kept (fun k => k = w.heap.size ∨ k = w.heap.size + 1 + 1) w1 (((w1.setCell ⟨w.heap.size, 0, none⟩ (.slice a1 N c1)).setCell ⟨w.heap.size + 1 + 1, 0, none⟩ (.slice a1 N c1)).setCell ⟨w.heap.size + 1 + 1, 1, none⟩ (.slice pa pn pc)) :=
    (((Kept.refl (fun k => k = w.heap.size ∨ k = w.heap.size + 1 + 1) w1).setCell (p := ⟨w.heap.size, 0, none⟩) (fun _ => .inl rfl) _).setCell (p := ⟨w.heap.size + 1 + 1, 0, none⟩) (fun _ => .inr rfl) _).setCell (p := ⟨w.heap.size + 1 + 1, 1, none⟩) (fun _ => .inr rfl) _
  have ho := ownsRow_kept H1.out.1 K (fun k hk e => by have := (H1.out.1.lt k hk).1; omega)
  exact ⟨a1, c1, rfl, owns_mono ho (by omega), H1.out.2.1.trans (K.below H1.out.2.1.size (fun k hk e => by omega))⟩

/-- What a key has in a list of entries. -/
def getE (key : ByteArray) (l : List (ByteArray × Vd)) : Option Vd := (l.find? (fun z => z.1.toList == key.toList)).map Prod.snd

theorem getE_cons (key : ByteArray) (y : ByteArray × Vd) (l : List (ByteArray × Vd)) : getE key (y :: l) = if (y.1.toList == key.toList) = true then some y.2 else getE key l := by
  unfold getE
  rw [List.find?_cons]
  split <;> simp_all

/-- What Get answers. -/
def GetP (key : ByteArray) (l : List (ByteArray × Vd)) (w : World) (e : Ending) (w' : World) : Prop := ∃ d b, e = .returned (.tuple #[vl d.k d.i d.t, .bool b]) ∧ (∀ d', getE key l = some d' → d = d') ∧ Below w.heap.size w w'

set_option maxRecDepth 100000 in
set_option maxHeartbeats 3200000 in
theorem rget_any (v : Value) (pa : Option Addr) (pn pc : Nat) (key : ByteArray) (l : List (ByteArray × Vd)) (w : World) (h : Rf w 4 v l.length (l.flatMap ecs)) (hl : l.length ≤ 1000) :
    Calls Tryz.prog 24 #[.agg #[v, .slice pa pn pc], .string key] w (GetP key l w) := by
  obtain ⟨ao, cap, rfl, -, -⟩ := h.shape
  have hA := two1 w (.cells #[.slice ao l.length cap, .slice pa pn pc] 33) (vo 0 0 emp)
  have hC := two2 w (.cells #[.slice ao l.length cap, .slice pa pn pc] 33) (vo 0 0 emp)
  have hb0 : Below w.heap.size w ((w.alloc (.cells #[.slice ao l.length cap, .slice pa pn pc] 33)).alloc (vo 0 0 emp)) := (below1 w _).alloc (by simp) _
  obtain ⟨f0, f1, f2⟩ := cells2f hA
  obtain ⟨g0, g1, g2, g3⟩ := vfacts hC
  have HR := hid (And.intro (h.below hb0) (And.intro hb0 hC))
  have hz1 := hp_lt hA
  have hz2 := hp_lt hC
  clear h hA hC hb0
  go_enter Tryz.func24, Tryz.ntmps24
  go_wp2_with fail
  generalize hw2 : (w.alloc (.cells #[.slice ao l.length cap, .slice pa pn pc] 33)).alloc (vo 0 0 emp) = w2 at *
  go_loopw [6] (fun ix wr => ∃ k : Nat, k ≤ l.length ∧ ix = .int .i64 k ∧ Hid (getE key l = getE key (l.drop k) ∧ wr = w2)) (fun ix _ => l.length - (intOf ix).toNat)
  case atStart => exact ⟨0, Nat.zero_le _, by go_num, hid ⟨rfl, rfl⟩⟩
  case round =>
    obtain ⟨k, hk, rfl, HG⟩ := hrel
    obtain rfl := HG.out.2
    by_cases hlt : k < l.length
    · have i1 : (k : Int) < (l.length : Int) := by omega
      obtain ⟨bb, off, cap', e, -, -, hcell⟩ := Rf.elem (f := ecs) (fun _ => rfl) (by omega) HR.out.1 k hlt
      injection e with e1 e2 e3
      subst e1 e3
      clear e2
      have hd : l.drop k = l[k] :: l.drop (k + 1) := List.drop_eq_getElem_cons hlt
      obtain ⟨y, hy⟩ : ∃ y, y = l[k] := ⟨_, rfl⟩
      rw [← hy] at hcell hd
      clear hy
      obtain ⟨yk, yv⟩ := y
      obtain ⟨ykk, yki, ykt⟩ := yv
      have d0 := hcell 0 _ rfl
      have d1 := hcell 1 _ rfl
      have d2 := hcell 2 _ rfl
      have d3 := hcell 3 _ rfl
      dsimp only at d0 d1 d2 d3
      rw [Nat.add_zero] at d0
      have e2 : off + k * 4 + 2 = off + k * 4 + 1 + 1 := rfl
      have e3 : off + k * 4 + 3 = off + k * 4 + 1 + 2 := rfl
      rw [e2] at d2
      rw [e3] at d3
      clear e2 e3
      have HG2 := hid (HG.out.1.trans (congrArg (getE key) hd))
      rw [getE_cons] at HG2
      clear hcell hd
      cases hq : (yk.toList == key.toList)
      · go_wp2_with fail
        go_roundw
        case rel => exact ⟨k + 1, by omega, by go_num, hid ⟨by have h3 := HG2.out; rw [if_neg (by show ¬ (yk.toList == key.toList) = true; rw [hq]; decide)] at h3; exact h3, by first | rfl | trivial⟩⟩
        case measure => simp [intOf]; omega
      · go_wp2_with fail
        refine bodyPost_ret (ret_agg2 Tryz.results24 rfl (set3 HR.out.2.2 _ _ _)) rfl ?_
        have hk9 : Kept (fun k => k = w.heap.size + 1) wr (((wr.setCell ⟨w.heap.size + 1, 0, none⟩ (.int .i64 ykk)).setCell ⟨w.heap.size + 1, 1, none⟩ (.int .i64 yki)).setCell ⟨w.heap.size + 1, 2, none⟩ (.string ykt)) := (((Kept.refl (fun k => k = w.heap.size + 1) wr).setCell (p := ⟨w.heap.size + 1, 0, none⟩) (fun _ => rfl) _).setCell (p := ⟨w.heap.size + 1, 1, none⟩) (fun _ => rfl) _).setCell (p := ⟨w.heap.size + 1, 2, none⟩) (fun _ => rfl) _
        refine ⟨⟨ykk, yki, ykt⟩, true, rfl, fun d' hd' => ?_, HR.out.2.1.trans (hk9.below HR.out.2.1.size (fun k hk e => by omega))⟩
        rw [HG2.out, if_pos (by show (yk.toList == key.toList) = true; exact hq)] at hd'
        injection hd'
    · have i1 : ¬ (k : Int) < (l.length : Int) := by omega
      have hk1 : k = l.length := by omega
      have HG2 := hid HG.out.1
      rw [hk1, List.drop_length] at HG2
      go_wp2_with fail
      refine bodyPost_ret (ret_agg2 Tryz.results24 rfl (set3 HR.out.2.2 _ _ _)) rfl ?_
      have hk9 : Kept (fun k => k = w.heap.size + 1) wr (((wr.setCell ⟨w.heap.size + 1, 0, none⟩ (.int .i64 0)).setCell ⟨w.heap.size + 1, 1, none⟩ (.int .i64 0)).setCell ⟨w.heap.size + 1, 2, none⟩ (.string emp)) := (((Kept.refl (fun k => k = w.heap.size + 1) wr).setCell (p := ⟨w.heap.size + 1, 0, none⟩) (fun _ => rfl) _).setCell (p := ⟨w.heap.size + 1, 1, none⟩) (fun _ => rfl) _).setCell (p := ⟨w.heap.size + 1, 2, none⟩) (fun _ => rfl) _
      refine ⟨⟨0, 0, emp⟩, false, rfl, fun d' hd' => ?_, HR.out.2.1.trans (hk9.below HR.out.2.1.size (fun k hk e => by omega))⟩
      rw [HG2.out] at hd'
      cases hd'

/-- What made makes of entries that are all good. -/
def mdL (l : List (ByteArray × Vd)) : List (ByteArray × Vd) := l.foldl (fun s x => putE x s) []
theorem mdL_succ (l : List (ByteArray × Vd)) (k : Nat) (h : k < l.length) : mdL (l.take (k + 1)) = putE l[k] (mdL (l.take k)) := by
  unfold mdL
  rw [List.take_succ_eq_append_getElem h, List.foldl_append]
  rfl
theorem mdL_len (l : List (ByteArray × Vd)) : ∀ k, (mdL (l.take k)).length ≤ k
  | 0 => by simp [mdL]
  | k + 1 => by
    by_cases h : k < l.length
    · rw [mdL_succ l k h]
      have := putE_len l[k] (mdL (l.take k))
      have := mdL_len l k
      omega
    · have h1 := mdL_len l k
      rw [List.take_of_length_le (by omega)] at h1 ⊢
      omega

set_option maxRecDepth 100000 in
set_option maxHeartbeats 3200000 in
theorem made_any (v : Value) (l : List (ByteArray × Vd)) (w : World) (h : Rf w 4 v l.length (l.flatMap ecs)) (hl : l.length ≤ 400) (hg : ∀ x ∈ l, isKeyB x.1 = true ∧ chk x.2.k x.2.i x.2.t = 0 ∧ x.2.k ≠ 0) :
    Calls Tryz.prog 9 #[v] w fun e w' => ∃ a c, e = .returned (.agg #[.slice a (mdL l).length c, .slice none 0 0]) ∧ Rf w' 4 (.slice a (mdL l).length c) (mdL l).length ((mdL l).flatMap ecs) ∧ Below w.heap.size w w' := by
  obtain ⟨ao, cap, rfl, -, -⟩ := h.shape
  have hA := two1 w (.cells #[.slice none 0 0, .slice none 0 0] 33) (.cells #[.slice none 0 0, .slice none 0 0] 33)
  have hC := two2 w (.cells #[.slice none 0 0, .slice none 0 0] 33) (.cells #[.slice none 0 0, .slice none 0 0] 33)
  have hb0 : Below w.heap.size w ((w.alloc (.cells #[.slice none 0 0, .slice none 0 0] 33)).alloc (.cells #[.slice none 0 0, .slice none 0 0] 33)) := (below1 w _).alloc (by simp) _
  have HR := hid (And.intro h (And.intro hb0 (And.intro hA (And.intro hC hg))))
  clear h hb0 hA hC hg
  go_enter Tryz.func9, Tryz.ntmps9
  go_wp2_with fail
  go_loopw [4] (fun ix wr => ∃ k : Nat, k ≤ l.length ∧ ix = .int .i64 k ∧ Hid (∃ a c, wr.heap[w.heap.size]? = some (.cells #[.slice none 0 0, .slice none 0 0] 33 (0, 0)) ∧ wr.heap[w.heap.size + 1]? = some (.cells #[.slice a (mdL (l.take k)).length c, .slice none 0 0] 33 (0, 0)) ∧ wr.ownsRow (w.heap.size + 2) 54 4 (.slice a (mdL (l.take k)).length c) (mdL (l.take k)).length ((mdL (l.take k)).flatMap ecs) ∧ Below w.heap.size w wr)) (fun ix _ => l.length - (intOf ix).toNat)
  case atStart => exact ⟨0, Nat.zero_le _, by go_num, hid ⟨none, 0, HR.out.2.2.1, HR.out.2.2.2.1, owns_nil _ _ _ _, HR.out.2.1⟩⟩
  case round =>
    obtain ⟨k, hk, rfl, HG⟩ := hrel
    obtain ⟨a, c, r0, r1, ro, rb⟩ := HG.out
    obtain ⟨f0, f1, f2⟩ := cells2f r0
    obtain ⟨g0, g1, g2⟩ := cells2f r1
    have hz1 := hp_lt r0
    have hz2 := hp_lt r1
    have HM := hid (mdL_len l k)
    obtain ⟨N, hN⟩ : ∃ N, N = (mdL (l.take k)).length := ⟨_, rfl⟩
    rw [← hN] at g0 r1 ro HM
    have HGG := hid (And.intro r0 (And.intro r1 (And.intro ro (And.intro rb hN))))
    clear r0 r1 ro rb hN HG
    by_cases hlt : k < l.length
    · have i1 : (k : Int) < (l.length : Int) := by omega
      have i2 : (k : Int) < 400 := by omega
      obtain ⟨bb, off, cap', e, -, -, hcell⟩ := Rf.elem (f := ecs) (fun _ => rfl) (by omega) HR.out.1 k hlt
      injection e with e1 e2 e3
      subst e1 e3
      clear e2
      have hsu := mdL_succ l k hlt
      have hok := HR.out.2.2.2.2 l[k] (List.getElem_mem hlt)
      obtain ⟨y, hy⟩ : ∃ y, y = l[k] := ⟨_, rfl⟩
      rw [← hy] at hcell hsu hok
      clear hy
      obtain ⟨yk, yv⟩ := y
      obtain ⟨ykk, yki, ykt⟩ := yv
      obtain ⟨hk1, hk2, hk3⟩ := hok
      dsimp only at hk1 hk2 hk3
      have HY := hid (show ∀ W, Below w.heap.size w W → W.cell? ⟨bb, off + k * 4, none⟩ = some (.string yk) ∧ W.cell? ⟨bb, off + k * 4 + 1, none⟩ = some (.int .i64 ykk) ∧ W.cell? ⟨bb, off + k * 4 + 1 + 1, none⟩ = some (.int .i64 yki) ∧ W.cell? ⟨bb, off + k * 4 + 1 + 2, none⟩ = some (.string ykt) ∧ W.cell? ⟨bb, off + k * 4 + 2, none⟩ = some (.int .i64 yki) ∧ W.cell? ⟨bb, off + k * 4 + 3, none⟩ = some (.string ykt) from fun W hb => by
        have cc : ∀ c u, (ecs (yk, ⟨ykk, yki, ykt⟩))[c]? = some u → W.cell? ⟨bb, off + k * 4 + c, none⟩ = some u := fun c u hu => (hb.cell (World.block_lt_of_cell? _ _ (hcell c u hu))).trans (hcell c u hu)
        exact ⟨cc 0 _ rfl, cc 1 _ rfl, cc 2 _ rfl, cc 3 _ rfl, cc 2 _ rfl, cc 3 _ rfl⟩)
      obtain ⟨d0, d1, d2, d3, d4, d5⟩ := HY.out wr HGG.out.2.2.2.1
      have HC1 := hid (fun W => riskey_any yk W)
      rw [hk1] at HC1
      have HC2 := hid (fun W => rcheck_any ykk yki ykt W)
      rw [hk2] at HC2
      have HSU := hid hsu
      clear hcell hsu
      go_upto_region 6 with (first
        | (go_at_call 19
           refine (HC1.out _).mono ?_
           rintro e w' ⟨rfl, e1⟩
           rw [e1]
           clear e1 w')
        | (go_at_call 20
           refine (HC2.out _).mono ?_
           rintro e w2 ⟨rfl, hb2⟩
           have r0' := blk_of hb2 HGG.out.1 (hp_lt HGG.out.1)
           have r1' := blk_of hb2 HGG.out.2.1 (hp_lt HGG.out.2.1)
           have ro' := ownsRow_kept HGG.out.2.2.1 (Kept.ofBelow hb2) (fun _ _ e => e)
           have rb' := below_on HGG.out.2.2.2.1 hb2
           have H2 := hid (And.intro r0' (And.intro r1' (And.intro ro' rb')))
           obtain ⟨u0, u1, u2⟩ := cells2f r1'
           obtain ⟨x0, x1, x2, x3, x4, x5⟩ := HY.out w2 rb'
           clear hb2 r0' r1' ro' rb'))
      have HP := hid (rput_any (.slice a N c) none 0 0 (yk, ⟨ykk, yki, ykt⟩) (mdL (l.take k)) w2.drew (by have h4 := rf_of_owns H2.out.2.2.1 (ecs_one _); rw [HGG.out.2.2.2.2] at h4 ⊢; exact h4.below ((Below.refl _ w2).drew)) (by have := HM.out; have := HGG.out.2.2.2.2; omega) hk3)
      go_region_with (go_at_call 18; refine HP.out.mono ?_; rintro e w3 ⟨a3, c3, rfl, ho3, hb3⟩; have q0 := blk_of hb3 (show w2.drew.heap[w.heap.size]? = _ from H2.out.1) (hp_lt H2.out.1); have q1 := blk_of hb3 (show w2.drew.heap[w.heap.size + 1]? = _ from H2.out.2.1) (hp_lt H2.out.2.1); obtain ⟨s0, s1, s2⟩ := cells2f q1; have hz3 := hp_lt q1; have H3 := hid (And.intro ho3 (And.intro (show Below w.heap.size w w3 from below_on H2.out.2.2.2.drew hb3) (And.intro q0 q1))); clear ho3 hb3 q0 q1)
      all_goals
        go_wp2_with fail
        have hF : ∃ a c, ((w3.setCell ⟨w.heap.size + 1, 0, none⟩ (.slice a3 (putE (yk, ⟨ykk, yki, ykt⟩) (mdL (l.take k))).length c3)).setCell ⟨w.heap.size + 1, 1, none⟩ (.slice none 0 0)).heap[w.heap.size]? = some (.cells #[.slice none 0 0, .slice none 0 0] 33 (0, 0)) ∧ ((w3.setCell ⟨w.heap.size + 1, 0, none⟩ (.slice a3 (putE (yk, ⟨ykk, yki, ykt⟩) (mdL (l.take k))).length c3)).setCell ⟨w.heap.size + 1, 1, none⟩ (.slice none 0 0)).heap[w.heap.size + 1]? = some (.cells #[.slice a (mdL (l.take (k + 1))).length c, .slice none 0 0] 33 (0, 0)) ∧ ((w3.setCell ⟨w.heap.size + 1, 0, none⟩ (.slice a3 (putE (yk, ⟨ykk, yki, ykt⟩) (mdL (l.take k))).length c3)).setCell ⟨w.heap.size + 1, 1, none⟩ (.slice none 0 0)).ownsRow (w.heap.size + 2) 54 4 (.slice a (mdL (l.take (k + 1))).length c) (mdL (l.take (k + 1))).length ((mdL (l.take (k + 1))).flatMap ecs) ∧ Below w.heap.size w ((w3.setCell ⟨w.heap.size + 1, 0, none⟩ (.slice a3 (putE (yk, ⟨ykk, yki, ykt⟩) (mdL (l.take k))).length c3)).setCell ⟨w.heap.size + 1, 1, none⟩ (.slice none 0 0)) := by
          rw [HSU.out]
          have K : Kept (fun k => k = w.heap.size + 1) w3 ((w3.setCell ⟨w.heap.size + 1, 0, none⟩ (.slice a3 (putE (yk, ⟨ykk, yki, ykt⟩) (mdL (l.take k))).length c3)).setCell ⟨w.heap.size + 1, 1, none⟩ (.slice none 0 0)) := ((Kept.refl (fun k => k = w.heap.size + 1) w3).setCell (p := ⟨w.heap.size + 1, 0, none⟩) (fun _ => rfl) _).setCell (p := ⟨w.heap.size + 1, 1, none⟩) (fun _ => rfl) _
          have hz := hp_lt H2.out.2.1
          have ho := ownsRow_kept H3.out.1 K (fun q hq e => by have h5 := (H3.out.1.lt q hq).1; have h6 : w2.drew.heap.size = w2.heap.size := rfl; omega)
          refine ⟨a3, c3, hpk H3.out.2.2.1 K (by omega), set2f H3.out.2.2.2 _ _, owns_mono ho (by have h6 : w2.drew.heap.size = w2.heap.size := rfl; omega), H3.out.2.1.trans (K.below H3.out.2.1.size (fun k hk e => by omega))⟩
        have HF := hid hF
        clear hF
        go_roundw
        case rel => first | exact ⟨k + 1, by omega, by go_num, HF⟩ | ((repeat apply Exists.intro); exact ⟨⟨k + 1, by omega, by go_num, HF⟩, rfl⟩)
        case measure => simp [intOf]; omega
    · have hk1 : k = l.length := by omega
      have i1 : ¬ (k : Int) < (l.length : Int) := by omega
      have HGL := hid HGG.out
      rw [hk1, List.take_length] at HGL
      go_wp2_with fail
      refine bodyPost_ret (ret33 Tryz.results9 rfl (set2f HGG.out.1 _ _)) rfl ?_
      have K : Kept (fun k => k = w.heap.size) wr ((wr.setCell ⟨w.heap.size, 0, none⟩ (.slice a N c)).setCell ⟨w.heap.size, 1, none⟩ (.slice none 0 0)) := ((Kept.refl (fun k => k = w.heap.size) wr).setCell (p := ⟨w.heap.size, 0, none⟩) (fun _ => rfl) _).setCell (p := ⟨w.heap.size, 1, none⟩) (fun _ => rfl) _
      obtain ⟨-, -, ro, rb, hN⟩ := HGL.out
      have ho := rf_of_owns (ownsRow_kept ro K (fun q hq e => by have h5 := (ro.lt q hq).1; omega)) (ecs_one _)
      rw [hN] at ho K ⊢
      exact ⟨a, c, rfl, ho, rb.trans (K.below rb.size (fun k hk e => by omega))⟩

end Go.Proofs.YthcoigbkdbkojaaGreat

namespace Go.Proofs.YthcoigbkdbkojaaGreat
open Go.RowKit Go.MapKept
open V (hp_new hp_lt hp_below hp_alloc)

/-- A register has another value. -/
def Mc.reg (c : Mc) (r : Int) (v : Vd) : Mc := { c with rg := fun q => if q = r then v else c.rg q }

section
variable {ws : World} {B mb M : Nat} {pc : Int} {x : Ins} {c : Mc}

theorem g_arg (ho : x.op = 2) (l : List Vd) (v : Vd) (ha : ∀ W, Below B ws W → Va W c.av l) (h0 : 0 ≤ x.a) (h1 : x.a < 16) (hn : 0 ≤ x.n) (hv : l[x.n.toNat]? = some v) : Goes1 ws B mb M pc x c (c.reg x.a v) :=
  ⟨2, ho, by omega, by omega, fun W tv lv hx hb => (arg_any x v l hx (ha W hb) h0 h1 hn hv).mono (fun _ _ h => ⟨h.1, ⟨tv, lv, h.2.1⟩, h.2.2⟩)⟩

theorem g_get (ho : x.op = 3) (key : ByteArray) (p : Nat) (g : ByteArray → Option V.Pd) (n B0 : Nat) (v : Vd) (a0 : 0 ≤ x.a) (a1 : x.a < 16) (b0 : 0 ≤ x.b) (b1 : x.b < 16) (hr : c.rg x.b = ⟨2, 0, key⟩) (hi : isKeyB key = true) (hl : c.lk.length ≤ 1000) (hv : c.vw = .iface 35 (.pointer (some ⟨p, 0, none⟩))) (hp : ∀ W, Below B ws W → V.PV W p g false n B0) (hn : key ∉ c.kv.map Prod.fst) (hg : g key = some (pdOf v)) :
    Goes1 ws B mb M pc x c { c.reg x.a v with lk := c.lk ++ [(key, key)] } :=
  ⟨3, ho, by omega, by omega, fun W tv lv hx hb => (get_m x key p g n B0 (pdOf v) hx a0 a1 b0 b1 hr (by unfold isKeyB at hi; have := of_decide_eq_true hi; omega) hi hl hv (fun W' hb' => hp W' (hb.trans hb')) hn hg).mono (fun _ _ h => by obtain ⟨v', h1, h2, h3⟩ := h; exact ⟨h1, ⟨tv, v', h2⟩, h3⟩)⟩

theorem g_tell (ho : x.op = 15) (a0 : 0 ≤ x.a) (a1 : x.a < 16) (hl : c.td.length < 64) (hz : (c.rg x.a).t.size ≤ 281474976710656) : Goes1 ws B mb M pc x c { c with td := c.td ++ [c.rg x.a] } :=
  ⟨15, ho, by omega, by omega, fun W tv lv hx _ => (tell_m x hx a0 a1 hl hz).mono (fun _ _ h => by obtain ⟨v', h1, h2, h3⟩ := h; exact ⟨h1, ⟨v', lv, h2⟩, h3⟩)⟩

theorem g_put (ho : x.op = 4) (key : ByteArray) (a0 : 0 ≤ x.a) (a1 : x.a < 16) (b0 : 0 ≤ x.b) (b1 : x.b < 16) (hr : c.rg x.a = ⟨2, 0, key⟩) (hi : isKeyB key = true) (hn : key ∉ c.kv.map Prod.fst) : Goes1 ws B mb M pc x c { c with kv := c.kv ++ [(key, (c.rg x.b).val)] } :=
  ⟨4, ho, by omega, by omega, fun W tv lv hx _ => (put_m x key hx a0 a1 b0 b1 hr (by unfold isKeyB at hi; have := of_decide_eq_true hi; omega) hi hn).mono (fun _ _ h => ⟨h.1, ⟨tv, lv, h.2.1⟩, h.2.2⟩)⟩

theorem g_need (ho : x.op = 10) (b0 : 0 ≤ x.b) (b1 : x.b < 16) (c0 : 0 ≤ x.c) (c1 : x.c < 16) (hq : holdsB x.n (cmpV (c.rg x.b).k (c.rg x.b).i (c.rg x.b).t (c.rg x.c).k (c.rg x.c).i (c.rg x.c).t) = true) : Goes1 ws B mb M pc x c c :=
  ⟨10, ho, by omega, by omega, fun W tv lv hx _ => (need_any x hx b0 b1 c0 c1 true hq).mono (fun _ _ h => by rw [if_pos rfl] at h; exact ⟨h.1, ⟨tv, lv, h.2.1⟩, h.2.2⟩)⟩

theorem n_need (ho : x.op = 10) (b0 : 0 ≤ x.b) (b1 : x.b < 16) (c0 : 0 ≤ x.c) (c1 : x.c < 16) (hq : holdsB x.n (cmpV (c.rg x.b).k (c.rg x.b).i (c.rg x.b).t (c.rg x.c).k (c.rg x.c).i (c.rg x.c).t) = false) : Gives1 ws B mb M pc x c 2 :=
  ⟨10, ho, by omega, by omega, fun W tv lv hx _ => (need_any x hx b0 b1 c0 c1 false hq).mono (fun _ _ h => by rw [if_neg (by decide)] at h; exact h)⟩

theorem g_add (ho : x.op = 6) (p q : Int) (a0 : 0 ≤ x.a) (a1 : x.a < 16) (b0 : 0 ≤ x.b) (b1 : x.b < 16) (c0 : 0 ≤ x.c) (c1 : x.c < 16) (hp : c.rg x.b = ⟨1, p, emp⟩) (hq : c.rg x.c = ⟨1, q, emp⟩) (h1 : inR p = true) (h2 : inR q = true) (h3 : inR (p + q) = true) : Goes1 ws B mb M pc x c (c.reg x.a ⟨1, p + q, emp⟩) :=
  ⟨6, ho, by omega, by omega, fun W tv lv hx _ => (add_ok x p q hx a0 a1 b0 b1 c0 c1 hp hq h1 h2 h3).mono (fun _ _ h => ⟨h.1, ⟨tv, lv, h.2.1⟩, h.2.2⟩)⟩

theorem n_add (ho : x.op = 6) (p q : Int) (a0 : 0 ≤ x.a) (a1 : x.a < 16) (b0 : 0 ≤ x.b) (b1 : x.b < 16) (c0 : 0 ≤ x.c) (c1 : x.c < 16) (hp : c.rg x.b = ⟨1, p, emp⟩) (hq : c.rg x.c = ⟨1, q, emp⟩) (h1 : inR p = true) (h2 : inR q = true) (h3 : inR (p + q) = false) : Gives1 ws B mb M pc x c 3 :=
  ⟨6, ho, by omega, by omega, fun W tv lv hx _ => (add_no x p q hx a0 a1 b0 b1 c0 c1 hp hq h1 h2 h3).mono (fun _ _ h => h)⟩

theorem g_sub (ho : x.op = 7) (p q : Int) (a0 : 0 ≤ x.a) (a1 : x.a < 16) (b0 : 0 ≤ x.b) (b1 : x.b < 16) (c0 : 0 ≤ x.c) (c1 : x.c < 16) (hp : c.rg x.b = ⟨1, p, emp⟩) (hq : c.rg x.c = ⟨1, q, emp⟩) (h1 : inR p = true) (h2 : inR q = true) (h3 : inR (p - q) = true) : Goes1 ws B mb M pc x c (c.reg x.a ⟨1, p - q, emp⟩) :=
  ⟨7, ho, by omega, by omega, fun W tv lv hx _ => (sub_ok x p q hx a0 a1 b0 b1 c0 c1 hp hq h1 h2 h3).mono (fun _ _ h => ⟨h.1, ⟨tv, lv, h.2.1⟩, h.2.2⟩)⟩

theorem n_sub (ho : x.op = 7) (p q : Int) (a0 : 0 ≤ x.a) (a1 : x.a < 16) (b0 : 0 ≤ x.b) (b1 : x.b < 16) (c0 : 0 ≤ x.c) (c1 : x.c < 16) (hp : c.rg x.b = ⟨1, p, emp⟩) (hq : c.rg x.c = ⟨1, q, emp⟩) (h1 : inR p = true) (h2 : inR q = true) (h3 : inR (p - q) = false) : Gives1 ws B mb M pc x c 3 :=
  ⟨7, ho, by omega, by omega, fun W tv lv hx _ => (sub_no x p q hx a0 a1 b0 b1 c0 c1 hp hq h1 h2 h3).mono (fun _ _ h => h)⟩

end

/-- An instruction's cells. -/
def ics (x : Ins) : List Value := [.int .i64 x.op, .int .i64 x.a, .int .i64 x.b, .int .i64 x.c, .int .i64 x.n, .int .i64 x.k, .int .i64 x.i, .string x.t]

theorem code_lit {w : World} {b : Nat} {t : TypeId} {cs : Array Value} {xs : List Ins} (h : w.heap[b]? = some (.cells cs t (0, 0))) (hc : cs.toList = xs.flatMap ics) : CodeAt w (.slice (some ⟨b, 0, none⟩) xs.length xs.length) xs := by
  refine ⟨_, _, rfl, Nat.le_refl _, fun _ => ⟨b, 0, rfl, fun j x hx => ?_⟩⟩
  have key : ∀ c u, c < 8 → (ics x)[c]? = some u → w.cell? ⟨b, 0 + j * 8 + c, none⟩ = some u := fun c u h8 hu => by
    rw [cell_of_row _ _ _ _ _ _ h, Nat.zero_add, ← Array.getElem?_toList, hc, flat_get ics 8 (fun _ => rfl) _ _ _ h8, hx]
    exact hu
  exact ⟨key 0 _ (by omega) rfl, key 1 _ (by omega) rfl, key 2 _ (by omega) rfl, key 3 _ (by omega) rfl, key 4 _ (by omega) rfl, key 5 _ (by omega) rfl, key 6 _ (by omega) rfl, key 7 _ (by omega) rfl⟩

theorem va_lit {w : World} {b : Nat} {t : TypeId} {cs : Array Value} {l : List Vd} (h : w.heap[b]? = some (.cells cs t (0, 0))) (hc : cs.toList = l.flatMap vcs) : Va w (.slice (some ⟨b, 0, none⟩) l.length l.length) l := by
  refine ⟨_, _, rfl, Nat.le_refl _, fun _ => ⟨b, 0, rfl, fun j x hx => ?_⟩⟩
  have key : ∀ c u, c < 3 → (vcs x)[c]? = some u → w.cell? ⟨b, 0 + j * 3 + c, none⟩ = some u := fun c u h8 hu => by
    rw [cell_of_row _ _ _ _ _ _ h, Nat.zero_add, ← Array.getElem?_toList, hc, flat_get vcs 3 (fun _ => rfl) _ _ _ h8, hx]
    exact hu
  exact ⟨key 0 _ (by omega) rfl, key 1 _ (by omega) rfl, key 2 _ (by omega) rfl⟩

/-- The letter a. -/
abbrev aK : ByteArray := ⟨#[97]⟩
/-- known's procedure. -/
abbrev xsK : List Ins := [⟨2, 0, 0, 0, 0, 0, 0, emp⟩, ⟨3, 1, 0, 0, 0, 0, 0, emp⟩, ⟨15, 1, 0, 0, 0, 0, 0, emp⟩, ⟨4, 0, 0, 0, 0, 0, 0, emp⟩]
/-- Its states. -/
def stK (vw av : Value) : Nat → Mc
  | 0 => mc0 vw av
  | 1 => (mc0 vw av).reg 0 ⟨2, 0, aK⟩
  | 2 => { ((mc0 vw av).reg 0 ⟨2, 0, aK⟩).reg 1 ⟨1, 1, emp⟩ with lk := [(aK, aK)] }
  | 3 => { ((mc0 vw av).reg 0 ⟨2, 0, aK⟩).reg 1 ⟨1, 1, emp⟩ with lk := [(aK, aK)], td := [⟨1, 1, emp⟩] }
  | _ => { ((mc0 vw av).reg 0 ⟨2, 0, aK⟩).reg 1 ⟨1, 1, emp⟩ with lk := [(aK, aK)], td := [⟨1, 1, emp⟩], kv := [(aK, vl 2 0 aK)] }

theorem chkK : procChk ⟨#[112]⟩ 1 xsK = (0, 0) := by decide +kernel

theorem goesK {w : World} {p B0 n : Nat} {av : Value} (hpv : V.PV w p (stG [(aK, ⟨1, 1, emp⟩)]) false n B0) (ha : Va w av [⟨2, 0, aK⟩]) (ws : World) (mb M : Nat) (hb : Below w.heap.size w ws) (k : Nat) (x : Ins) (hx : xsK[k]? = some x) :
    Goes1 ws ws.heap.size mb M k x (stK (.iface 35 (.pointer (some ⟨p, 0, none⟩))) av k) (stK (.iface 35 (.pointer (some ⟨p, 0, none⟩))) av (k + 1)) := by
  match k, hx with
  | 0, hx =>
    injection hx with hx
    subst hx
    exact g_arg rfl [⟨2, 0, aK⟩] ⟨2, 0, aK⟩ (fun W hW => (ha.below hb).below hW) (by decide) (by decide) (by decide) rfl
  | 1, hx =>
    injection hx with hx
    subst hx
    exact g_get rfl aK p _ n B0 ⟨1, 1, emp⟩ (by decide) (by decide) (by decide) (by decide) rfl (by decide +kernel) (by simp [stK, mc0, Mc.reg]) rfl (fun W hW => (hpv.below hb).below hW) (by simp [stK, mc0, Mc.reg]) (by simp [stG, V.updG, pdOf])
  | 2, hx =>
    injection hx with hx
    subst hx
    exact g_tell rfl (by decide) (by decide) (by simp [stK, mc0, Mc.reg]) (by show emp.size ≤ _; decide +kernel)
  | 3, hx =>
    injection hx with hx
    subst hx
    exact g_put rfl aK (by decide) (by decide) (by decide) (by decide) rfl (by decide +kernel) (by simp [stK, mc0, Mc.reg])
  | k + 4, hx => simp at hx

end Go.Proofs.YthcoigbkdbkojaaGreat

namespace Go.Proofs.YthcoigbkdbkojaaGreat
open Go.RowKit Go.MapKept
open V (hp_new hp_lt hp_below hp_alloc)

theorem dnL_one (key : ByteArray) (d : Vd) : dnL [(key, d.val)] = [(key, d)] := by
  have h1 : sk [(key, d.val)] = [key.data.toList] := by simp [sk]
  have h2 : (⟨key.data.toList.toArray⟩ : ByteArray) = key := by simp
  have h3 : lkp key [(key, d.val)] = some d.val := by unfold lkp; simp [List.lookup]
  unfold dnL
  rw [h1, List.map_cons, List.map_nil, h2, h3]
  rfl

/-- The first element of a row, cell by cell. -/
theorem Rf.first {w : World} {m : Nat} {v : Value} {n : Nat} {cs : List Value} (h : Rf w m v n cs) (h0 : 0 < n) (hm : 0 < m) : ∃ b off cap, v = .slice (some ⟨b, off, none⟩) n cap ∧ b < w.heap.size ∧ ∀ j u, cs[j]? = some u → w.cell? ⟨b, off + j, none⟩ = some u := by
  obtain ⟨b, off, cap, e, -, -, hc⟩ := h.lits h0 hm
  have hl := h.1
  have hpos : 0 < cs.length := by rw [hl]; exact Nat.mul_pos h0 hm
  exact ⟨b, off, cap, e, World.block_lt_of_cell? _ _ (hc 0 cs[0] (by simp [hpos])), hc⟩

/-- What known's call leaves. -/
theorem effK {B R : Nat} {vw av v : Value} {W : World} (h : Eff B R (stK vw av 4) v W) : ∃ b1 o1 k1 b2 o2 k2 b3 o3 k3, v = .agg #[.int .i64 1, .int .i64 0, .slice (some ⟨b1, o1, none⟩) 1 k1, .slice (some ⟨b2, o2, none⟩) 1 k2, .slice (some ⟨b3, o3, none⟩) 1 k3] ∧
    (b1 < W.heap.size ∧ b2 < W.heap.size ∧ b3 < W.heap.size) ∧ W.cell? ⟨b1, o1 + 1, none⟩ = some (.int .i64 1) ∧ W.cell? ⟨b2, o2, none⟩ = some (.string aK) ∧ W.cell? ⟨b2, o2 + 1 + 2, none⟩ = some (.string aK) ∧ W.cell? ⟨b3, o3, none⟩ = some (.string aK) ∧ W.cell? ⟨b3, o3 + 1, none⟩ = some (.string aK) := by
  obtain ⟨t1, k1, t2, k2, t3, k3, e, h1, h2, h3, -⟩ := h.ex
  obtain ⟨b1, o1, c1, e1, l1, q1⟩ := (rf_of_owns h1 (vcs_one _)).first (by show 0 < 1; decide) (by omega)
  obtain ⟨b2, o2, c2, e2, l2, q2⟩ := (rf_of_owns h2 (ecs_one _)).first (by show 0 < 1; decide) (by omega)
  obtain ⟨b3, o3, c3, e3, l3, q3⟩ := (rf_of_owns h3 (lcs_one _)).first (by show 0 < 1; decide) (by omega)
  have hd : dnL (stK vw av 4).kv = [(aK, ⟨2, 0, aK⟩)] := dnL_one aK ⟨2, 0, aK⟩
  rw [hd] at q2
  refine ⟨b1, o1, c1, b2, o2, c2, b3, o3, c3, ?_, ⟨l1, l2, l3⟩, q1 1 _ rfl, q2 0 _ rfl, q2 3 _ rfl, q3 0 _ rfl, q3 1 _ rfl⟩
  rw [e, e1, e2, e3]
  rfl

/-- The world at known's call. -/
abbrev wK (w1 : World) : World := ((w1.alloc (.cells #[.int .i64 2, .int .i64 0, .int .i64 0, .int .i64 0, .int .i64 0, .int .i64 0, .int .i64 0, .string emp, .int .i64 3, .int .i64 1, .int .i64 0, .int .i64 0, .int .i64 0, .int .i64 0, .int .i64 0, .string emp, .int .i64 15, .int .i64 1, .int .i64 0, .int .i64 0, .int .i64 0, .int .i64 0, .int .i64 0, .string emp, .int .i64 4, .int .i64 0, .int .i64 0, .int .i64 0, .int .i64 0, .int .i64 0, .int .i64 0, .string emp] 30)).alloc (.cells #[.string ⟨#[112]⟩, .int .i64 1, .slice (some ⟨w1.heap.size, 0, none⟩) 4 4] 25)).alloc (.cells #[.int .i64 2, .int .i64 0, .string aK] 28)

theorem runK {w1 : World} {p n B0 : Nat} (hpv : V.PV w1 p (stG [(aK, ⟨1, 1, emp⟩)]) false n B0) :
    Calls Tryz.prog 12 #[.iface 35 (.pointer (some ⟨p, 0, none⟩)), .agg #[.string ⟨#[112]⟩, .int .i64 1, .slice (some ⟨w1.heap.size, 0, none⟩) 4 4], .slice (some ⟨w1.heap.size + 1 + 1, 0, none⟩) 1 1] (wK w1) fun e w' => ∃ b1 o1 k1 b2 o2 k2 b3 o3 k3, e = .returned (.agg #[.int .i64 1, .int .i64 0, .slice (some ⟨b1, o1, none⟩) 1 k1, .slice (some ⟨b2, o2, none⟩) 1 k2, .slice (some ⟨b3, o3, none⟩) 1 k3]) ∧
      ((b1 < w'.heap.size ∧ b2 < w'.heap.size ∧ b3 < w'.heap.size) ∧ w'.cell? ⟨b1, o1 + 1, none⟩ = some (.int .i64 1) ∧ w'.cell? ⟨b2, o2, none⟩ = some (.string aK) ∧ w'.cell? ⟨b2, o2 + 1 + 2, none⟩ = some (.string aK) ∧ w'.cell? ⟨b3, o3, none⟩ = some (.string aK) ∧ w'.cell? ⟨b3, o3 + 1, none⟩ = some (.string aK)) ∧ Below w1.heap.size w1 w' := by
  obtain ⟨hA, -, hC, hb⟩ := three w1 (.cells #[.int .i64 2, .int .i64 0, .int .i64 0, .int .i64 0, .int .i64 0, .int .i64 0, .int .i64 0, .string emp, .int .i64 3, .int .i64 1, .int .i64 0, .int .i64 0, .int .i64 0, .int .i64 0, .int .i64 0, .string emp, .int .i64 15, .int .i64 1, .int .i64 0, .int .i64 0, .int .i64 0, .int .i64 0, .int .i64 0, .string emp, .int .i64 4, .int .i64 0, .int .i64 0, .int .i64 0, .int .i64 0, .int .i64 0, .int .i64 0, .string emp] 30) (.cells #[.string ⟨#[112]⟩, .int .i64 1, .slice (some ⟨w1.heap.size, 0, none⟩) 4 4] 25) (.cells #[.int .i64 2, .int .i64 0, .string aK] 28)
  have hc : CodeAt (wK w1) (.slice (some ⟨w1.heap.size, 0, none⟩) 4 4) xsK := code_lit (xs := xsK) hA rfl
  have ha : Va (wK w1) (.slice (some ⟨w1.heap.size + 1 + 1, 0, none⟩) 1 1) [⟨2, 0, aK⟩] := va_lit (l := [⟨2, 0, aK⟩]) hC rfl
  refine (exec_ok 35 p _ _ ⟨#[112]⟩ 1 xsK [⟨2, 0, aK⟩] (wK w1) 0 hc ha (by decide) (by decide) chkK (by intro x hx; simp at hx; rw [hx]; decide +kernel) rfl (stK (.iface 35 (.pointer (some ⟨p, 0, none⟩))) (.slice (some ⟨w1.heap.size + 1 + 1, 0, none⟩) 1 1)) rfl (goesK (hpv.below hb) ha) (by show 1 ≤ 1000; decide) ?_ ?_).mono ?_
  · intro x hx
    have : x = (aK, vl 2 0 aK) := by simpa [stK] using hx
    rw [this]
    decide +kernel
  · intro x hx
    have : x = (aK, vl 2 0 aK) := by simpa [stK] using hx
    rw [this]
    exact ⟨⟨2, 0, aK⟩, rfl, by decide +kernel⟩
  · rintro e w' ⟨v, rfl, hE, hb2⟩
    obtain ⟨b1, o1, k1, b2, o2, k2, b3, o3, k3, rfl, h⟩ := effK hE
    exact ⟨b1, o1, k1, b2, o2, k2, b3, o3, k3, rfl, h, hb.trans (hb2.mono hb.size)⟩

set_option maxRecDepth 100000 in
set_option maxHeartbeats 8000000 in
theorem known_any (w : World) : Calls Tryz.prog 17 #[] w fun e w' => e = .returned (.bool true) ∧ Below w.heap.size w w' := by
  have HS := hid (store_any (.slice (some ⟨w.heap.size, 0, none⟩) 1 1) none 0 0 [(aK, ⟨1, 1, emp⟩)] (w.alloc (.cells (eca (aK, ⟨1, 1, emp⟩)) 54)) (rf_e w (aK, ⟨1, 1, emp⟩)) (by simp) (by intro x hx; simp at hx; rw [hx]; decide +kernel))
  go_enter Tryz.func17, Tryz.ntmps17
  go_wp2_with (first
    | (go_at_call 10
       refine HS.out.mono ?_
       rintro e w1 ⟨p, rfl, hpv, hb1⟩
       have HR := hid (runK hpv)
       have H1 := hid (below_on (below1 w _) hb1)
       clear hpv hb1)
    | (go_at_call 12
       refine HR.out.mono ?_
       rintro e w2 ⟨b1, o1, k1, b2, o2, k2, b3, o3, k3, rfl, ⟨⟨l1, l2, l3⟩, c1, c2, c3, c4, c5⟩, hb2⟩
       have H2 := hid (below_on H1.out hb2)
       clear hb2))
  go_ret
  exact ⟨rfl, H2.out.alloc H2.out.size _⟩

end Go.Proofs.YthcoigbkdbkojaaGreat
