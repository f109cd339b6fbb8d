import Derived.Test.YtdnlfacfleemeaaGreatK25
import Derived.Deep.Cut
import Derived.Test.YtdnlfacfleemeaaGreatK23
namespace Go.Proofs.YtdnlfacfleemeaaGreat
open Go.RowKit Go.Lib

theorem vowns_new (w : World) (B : Nat) (v : Vd) (hB : B ≤ w.heap.size) : (w.alloc (vo v.k v.i v.t)).ownsRow B 51 3 (.slice (some ⟨w.heap.size, 0, none⟩) 1 1) [v].length ([v].flatMap Vd.cells) := by
  refine ⟨by simp [Vd.cells], .inr ⟨w.heap.size, 1, _, rfl, hB, heap_alloc_new w _, Nat.le_refl _, by decide, by simp, ?_⟩⟩
  simp [Vd.cells]

theorem rfv_new (w : World) (v : Vd) : Rf (w.alloc (vo v.k v.i v.t)) 3 (.slice (some ⟨w.heap.size, 0, none⟩) 1 1) 1 ([v].flatMap Vd.cells) := rf_of_owns (vowns_new w 0 v (Nat.zero_le _)) (all_oneV _)
theorem rfi_new (w : World) (x : Ins) : Rf (w.alloc (io x.op x.a x.b x.c x.n x.k x.i x.t)) 8 (.slice (some ⟨w.heap.size, 0, none⟩) 1 1) 1 ([x].flatMap Ins.cells) := rf_of_owns (owns_new w 0 x (Nat.zero_le _)) (all_one _)

theorem all_oneT (zs : List Tx2) : ∀ u ∈ zs.flatMap Tx2.cells, u.oneCell' = true := by
  intro u hu
  obtain ⟨x, _, hx⟩ := List.mem_flatMap.1 hu
  exact tx2_one x u hx

theorem rft_new (w : World) (z : Tx2) : Rf (w.alloc (txo z.t z.S1 z.S2 30)) 6 (.slice (some ⟨w.heap.size, 0, none⟩) 1 1) 1 ([z].flatMap Tx2.cells) := by
  have h : (w.alloc (txo z.t z.S1 z.S2 30)).ownsRow 0 30 6 (.slice (some ⟨w.heap.size, 0, none⟩) 1 1) [z].length ([z].flatMap Tx2.cells) := by
    refine ⟨by simp [Tx2.cells], .inr ⟨w.heap.size, 1, _, rfl, Nat.zero_le _, heap_alloc_new w _, Nat.le_refl _, by decide, by simp, ?_⟩⟩
    simp [Tx2.cells]
  exact rf_of_owns h (all_oneT _)

/-- What twin leaves. -/
def TwB (w : World) (f : Int) (ts : List Txd) (e : Ending) (w' : World) : Prop :=
  ∃ (zs : List Tx2) (tb c : Nat) (cur : Array Value), e = .returned (.agg #[.int .i64 f, .slice (some ⟨tb, 0, none⟩) ts.length c]) ∧ zs.map Tx2.t = ts ∧ ts.length + 5 ≤ c ∧ w.heap.size ≤ tb ∧ w'.heap[tb]? = some (.cells cur 30 (0, 0)) ∧
    (∀ (j : Nat) (z : Tx2), (zs ++ tMarks 5)[j]? = some z → TxC w' tb (j * 6) z.t z.S1 z.S2) ∧ (∀ z ∈ zs, ZL w.heap.size w'.heap.size w' z) ∧ Below w.heap.size w w'

theorem box_set {W : World} {q : Nat} {t : Txd} {S1 S2 : Value} (h : W.heap[q]? = some (txo t S1 S2 30)) (T1 T2 : Value) :
    ((W.setCell ⟨q, 5, none⟩ T2).setCell ⟨q, 3, none⟩ T1).heap[q]? = some (txo t T1 T2 30) ∧ Kept (fun k => k = q) W ((W.setCell ⟨q, 5, none⟩ T2).setCell ⟨q, 3, none⟩ T1) :=
  ⟨by simp [World.setCell, Array.getElem?_modify, h], ((Kept.refl (fun k => k = q) W).setCell (p := ⟨q, 5, none⟩) (fun _ => rfl) _).setCell (p := ⟨q, 3, none⟩) (fun _ => rfl) _⟩

theorem own_ts {W : World} {B : Nat} {ao : Option Addr} {n c : Nat} {zs : List Tx2} (h : W.ownsRow B 30 6 (.slice ao n c) zs.length (zs.flatMap Tx2.cells)) (hn : zs.length = n) (h0 : 0 < n) :
    ∃ g cur, ao = some ⟨g, 0, none⟩ ∧ B ≤ g ∧ n ≤ c ∧ W.heap[g]? = some (.cells cur 30 (0, 0)) ∧ ∀ (j : Nat) (z : Tx2), zs[j]? = some z → TxC W g (j * 6) z.t z.S1 z.S2 := by
  have hr := rf_of_owns h (all_oneT _)
  rcases h.2 with ⟨e1, e2⟩ | ⟨g, cap, cur, e1, hB, hgg, hle, _⟩
  · injection e1 with _ e3 _
    omega
  · injection e1 with e1 e2 e3
    refine ⟨g, cur, e1, hB, by omega, hgg, ?_⟩
    intro j z hz
    obtain ⟨b, off, cap', e4, hat⟩ := tx2_get hr hz
    injection e4 with e4 _ _
    rw [e1] at e4
    injection e4 with e4
    injection e4 with e5 e6 _
    subst e5 e6
    rwa [Nat.zero_add] at hat

theorem Twl.fin {w W : World} {f : Int} {S : Value} {zs : List Tx2} {n c tb : Nat} {cur : Array Value} {ts : List Txd} (h : Twl w W f S (.slice (some ⟨tb, 0, none⟩) (n + 5) c) zs 5) (hz : zs.map Tx2.t = ts) (hn : ts.length = n) (hB : w.heap.size + 2 ≤ tb) (hc : n + 5 ≤ c) (hblk : W.heap[tb]? = some (.cells cur 30 (0, 0)))
    (hat : ∀ (j : Nat) (z : Tx2), (zs ++ tMarks 5)[j]? = some z → TxC W tb (j * 6) z.t z.S1 z.S2) (S' : Value) (hS : S' = .slice (some ⟨tb, 0, none⟩) n c) :
    (((W.setCell ⟨w.heap.size, 1, none⟩ S').setCell ⟨w.heap.size + 1, 0, none⟩ (.int .i64 f)).setCell ⟨w.heap.size + 1, 1, none⟩ S').heap[w.heap.size + 1]? = some (.cells #[.int .i64 f, S'] 24 (0, 0)) ∧
    TwB w f ts (.returned (.agg #[.int .i64 f, S'])) (((W.setCell ⟨w.heap.size, 1, none⟩ S').setCell ⟨w.heap.size + 1, 0, none⟩ (.int .i64 f)).setCell ⟨w.heap.size + 1, 1, none⟩ S') := by
  have hk : Kept (fun k => k = w.heap.size ∨ k = w.heap.size + 1) W (((W.setCell ⟨w.heap.size, 1, none⟩ S').setCell ⟨w.heap.size + 1, 0, none⟩ (.int .i64 f)).setCell ⟨w.heap.size + 1, 1, none⟩ S') :=
    (((Kept.refl (fun k => k = w.heap.size ∨ k = w.heap.size + 1) W).setCell (p := ⟨w.heap.size, 1, none⟩) (fun _ => .inl rfl) _).setCell (p := ⟨w.heap.size + 1, 0, none⟩) (fun _ => .inr rfl) _).setCell (p := ⟨w.heap.size + 1, 1, none⟩) (fun _ => .inr rfl) _
  have e1 : (W.setCell ⟨w.heap.size, 1, none⟩ S').heap[w.heap.size + 1]? = some (bo 0 (.slice none 0 0)) := (Below.heap_setCell _ _ _ _ (by show w.heap.size + 1 ≠ w.heap.size; omega)).trans h.r1
  refine ⟨by generalize W.setCell ⟨w.heap.size, 1, none⟩ S' = V at e1; simp [World.setCell, Array.getElem?_modify, e1], zs, tb, c, cur, by rw [hS, hn], hz, by omega, by omega, (hk.block tb (lt_of hblk) (by omega)).trans hblk, fun j z hz => (hat j z hz).same (hk.block tb (lt_of hblk) (by omega)), ?_, h.hb.trans (hk.below h.hb.size (fun k h1 h2 => by omega))⟩
  intro z hz
  have := (h.zl z hz).keep hk.size hk (fun g _ _ h1 _ _ _ => by omega)
  obtain ⟨⟨g, cu, a1, a2, a3⟩, ⟨g', cu', b1, b2, b3⟩⟩ := this
  exact ⟨⟨g, cu, a1, by omega, a3⟩, ⟨g', cu', b1, by omega, b3⟩⟩

theorem mapT_take {zs ys : List Tx2} {n : Nat} {y : Tx2} {z : Tx2} (h : zs.map Tx2.t = (ys.take n).map Tx2.t) (hy : ys[n]? = some y) (hz : z.t = y.t) : (zs ++ [z]).map Tx2.t = (ys.take (n + 1)).map Tx2.t := by
  rw [List.take_add_one, hy, List.map_append, List.map_append, h]
  simp [hz]

set_option maxRecDepth 100000 in
set_option maxHeartbeats 16000000 in
theorem twin_any (f : Int) (S : Value) (ys : List Tx2) (w : World) (h : BatR w S ys) (hs : Sma (ys.map Tx2.t)) : Calls Tryz.prog 7 #[.agg #[.int .i64 f, S]] w (TwB w f (ys.map Tx2.t)) := by
  have HB := hid h
  have HSm := hid hs
  have hlen : ys.length ≤ 300 := by have := hs.1; rwa [List.length_map] at this
  obtain ⟨ao, cap, rfl, hcap, _⟩ := h.1.shape
  have hb0 := below2 w (bo f (.slice ao ys.length cap)) (bo 0 (.slice none 0 0))
  have H0 : Hid (Twl w ((w.alloc (bo f (.slice ao ys.length cap))).alloc (bo 0 (.slice none 0 0))) f (.slice ao ys.length cap) (.slice none 0 0) [] 0) :=
    hid ⟨two1 w _ _, two2 w _ _, World.ownsRow_nil _ _ _ _, fun z hz => by simp at hz, hb0⟩
  clear h hs hcap hb0
  go_enter Tryz.func7, Tryz.ntmps7
  go_wp2
  go_loopw [3, 4] (fun l ix wr => ∃ (n : Nat) (zs : List Tx2) (aL : Option Addr) (cL : Nat), n ≤ ys.length ∧ ix = .int .i64 n ∧ l = .slice aL n cL ∧ zs.length = n ∧ Hid (zs.map Tx2.t = (ys.take n).map Tx2.t) ∧ Hid (Twl w wr f (.slice ao ys.length cap) (.slice aL n cL) zs 0)) (fun _ ix _ => ys.length - (intOf ix).toNat)
  case atStart => exact ⟨0, [], none, 0, Nat.zero_le _, rfl, rfl, rfl, hid (by simp), H0⟩
  case round =>
    clear H0
    obtain ⟨n, zs, aL, cL, hn, rfl, rfl, hzl, hZ, hT⟩ := hrel
    obtain ⟨p0, p1, pz⟩ := vfacts2 hT.out.r0
    by_cases hlt : n < ys.length
    · obtain ⟨y, hy⟩ : ∃ y, ys[n]? = some y := ⟨_, List.getElem?_eq_getElem hlt⟩
      obtain ⟨b, off, cap', e1, hc⟩ := tx2_get HB.out.1 hy
      injection e1 with e1 e2 e3
      subst e1
      clear e2 e3
      obtain ⟨d0, d1, d2, d3, d4, d5⟩ := hc.same (hT.out.hb.block b hc.lt)
      have hym := List.mem_of_getElem? hy
      have HRy := hid (HB.out.2 y hym)
      have hsm := HSm.out.2 y.t (List.mem_map_of_mem hym)
      have hv300 := hsm.1
      have hx300 := hsm.2
      have hlt' : (n : Int) < (ys.length : Int) := by omega
      have m2 := World.new_ne wr ⟨b, off + n * 6, none⟩ d0
      have H1 := hid (twi_start hT.out (txo y.t y.S1 y.S2 30))
      have HMT := hid (fun (z : Tx2) hz => mapT_take (z := z) hZ.out hy hz)
      clear hc hym hsm
      clear hy
      go_wp2_with (at_builtin; go_loud (first
        | (refine wpList_append_rf _ rfl _ _ 28 51 (.agg vCells) 3 32 rfl Tryz.underlying28 Tryz.info51z rfl (by decide) (wr.heap.size + 1) _ 0 [] rfl H1.out.oa _ y.t.vs.length _ rfl (HRy.out.2.1.below H1.out.hb) (by omega) (by unfold maxLen; omega) (by simp) ?_
           intro aA cA w2 hown hgrow hat
           have H2 := hid (H1.out.appA (us := y.t.vs) (by simpa using hown.out) hgrow.out)
           obtain ⟨q0, q1, q2, q3, q4, q5, qz⟩ := vfacts6 H2.out.q
           have hw2 := lt_of H2.out.q
           clear hown hgrow hat)
        | (refine wpList_append_rf _ rfl _ _ 25 53 (.agg zCells) 8 72 rfl Tryz.underlying25 Tryz.info53z rfl (by decide) (wr.heap.size + 1) _ 0 [] rfl H2.out.oc _ y.t.xs.length _ rfl (HRy.out.1.below H2.out.hb) (by omega) (by unfold maxLen; omega) (by omega) ?_
           intro aC cC w3 hown hgrow hat
           have H3 := hid (H2.out.appC (us := y.t.xs) (by simpa using hown.out) hgrow.out)
           clear hown hgrow hat)))
      clear H1 H2 q0 q1 q2 q3 q4 q5 qz hw2 d0 d1 d2 d3 d4 d5 m2 p0 p1 pz
      go_loopw [6, 7, 8] (fun la lc ik wz => ∃ (k : Nat) (aA : Option Addr) (cA : Nat) (aC : Option Addr) (cC : Nat), k ≤ 5 ∧ ik = .int .i64 k ∧ la = .slice aA (y.t.vs.length + k) cA ∧ lc = .slice aC (y.t.xs.length + k) cC ∧ Hid (Twi w wr wz f (.slice (some ⟨b, off, none⟩) ys.length cap) (.slice aL n cL) zs (txo y.t y.S1 y.S2 30) (.slice aA (y.t.vs.length + k) cA) (.slice aC (y.t.xs.length + k) cC) (y.t.vs ++ vMarks k) (y.t.xs ++ iMarks k))) (fun _ _ ik _ => 5 - (intOf ik).toNat)
      case atStart => exact ⟨0, aA, cA, aC, cC, by omega, rfl, by simp, by simp, hid (by simpa [vMarks, iMarks] using H3.out)⟩
      case round =>
        rename World => wz
        clear H3
        obtain ⟨k, aA, cA, aC, cC, hk, rfl, rfl, rfl, hI⟩ := hrel
        by_cases hk5 : k < 5
        · have hk5' : (k : Int) < 5 := by omega
          have w50 : wrap64 (50 + (k : Int)) = 50 + (k : Int) := by unfold wrap64; omega
          have w60 : wrap64 (60 + (k : Int)) = 60 + (k : Int) := by unfold wrap64; omega
          have hlA : (y.t.vs ++ vMarks k).length = y.t.vs.length + k := by simp [vMarks]
          have hlC : (y.t.xs ++ iMarks k).length = y.t.xs.length + k := by simp [iMarks]
          have HLA := hid (And.intro hlA hlC)
          have hwz := lt_of hI.out.q
          clear hlA hlC
          go_wp2_with (at_builtin; go_loud (first
            | (refine wpList_append_rf _ rfl _ _ 28 51 (.agg vCells) 3 32 rfl Tryz.underlying28 Tryz.info51z rfl (by decide) (wr.heap.size + 1) _ (y.t.vs.length + k) _ rfl (by have := (hI.out.below (below1 wz (vo (50 + (k : Int)) 0 emp))).oa; rwa [HLA.out.1] at this) _ 1 ([vMark k].flatMap Vd.cells) rfl (rfv_new wz (vMark k)) (by omega) (by unfold maxLen; omega) (by simp; omega) ?_
               intro aA2 cA2 w2 hown hgrow hat
               have H2 := hid ((hI.out.below (below1 wz (vo (50 + (k : Int)) 0 emp))).appA (us := [vMark k]) (by rw [HLA.out.1]; exact hown.out) hgrow.out)
               have hw2 := lt_of H2.out.q
               clear hown hgrow hat)
            | (refine wpList_append_rf _ rfl _ _ 25 53 (.agg zCells) 8 72 rfl Tryz.underlying25 Tryz.info53z rfl (by decide) (wr.heap.size + 1) _ (y.t.xs.length + k) _ rfl (by have := (H2.out.below (below1 w2 (io (60 + (k : Int)) 0 0 0 0 0 0 emp))).oc; rwa [HLA.out.2] at this) _ 1 ([iMark k].flatMap Ins.cells) rfl (rfi_new w2 (iMark k)) (by omega) (by unfold maxLen; omega) (by simp; omega) ?_
               intro aC2 cC2 w3 hown hgrow hat
               have H3 := hid ((H2.out.below (below1 w2 (io (60 + (k : Int)) 0 0 0 0 0 0 emp))).appC (us := [iMark k]) (by rw [HLA.out.2]; exact hown.out) hgrow.out)
               clear hown hgrow hat)))
          go_roundw
          case rel =>
            refine ⟨k + 1, aA2, cA2, aC2, cC2, by omega, by go_num, by simp [Nat.add_assoc], by simp [Nat.add_assoc], hid ?_⟩
            have := H3.out
            rw [List.append_assoc, List.append_assoc, ← vMarks_succ, ← iMarks_succ] at this
            exact this
          case measure => simp [intOf]; omega
        · obtain rfl : k = 5 := by omega
          obtain ⟨ga, cura, rfl, a2, a3, a4, a5⟩ := own_vs hI.out.oa (by simp [vMarks]) (by omega)
          obtain ⟨gc, curc, rfl, b2, b3, b4, b5⟩ := own_xs hI.out.oc (by simp [iMarks]) (by omega)
          obtain ⟨q0, q1, q2, q3, q4, q5, qz⟩ := vfacts6 hI.out.q
          have hcA : (y.t.vs.length : Int) ≤ (cA : Int) := by omega
          have hcC : (y.t.xs.length : Int) ≤ (cC : Int) := by omega
          clear a2 a4 a5 b2 b4 b5
          go_upto_region 17 with fail
          have HQ := hid (box_set hI.out.q (.slice (some ⟨gc, 0, none⟩) y.t.xs.length cC) (.slice (some ⟨ga, 0, none⟩) y.t.vs.length cA))
          have H4 := hid (hI.out.put HQ.out.2 HQ.out.1)
          generalize (wz.setCell ⟨wr.heap.size, 5, none⟩ (.slice (some ⟨ga, 0, none⟩) y.t.vs.length cA)).setCell ⟨wr.heap.size, 3, none⟩ (.slice (some ⟨gc, 0, none⟩) y.t.xs.length cC) = W4 at *
          clear HQ q0 q1 q2 q3 q4 q5 qz hI
          obtain ⟨q0, q1, q2, q3, q4, q5, qz⟩ := vfacts6 H4.out.q
          have hw4 := lt_of H4.out.q
          have lw4 := H4.out.lw
          go_wp2_with (at_builtin; go_loud (
            refine wpList_append_rf _ rfl _ _ 22 30 (.agg tCells) 6 96 rfl Tryz.underlying22 Tryz.info30z rfl (by decide) (w.heap.size + 2) _ n _ rfl (by have := (H4.out.below (below1 W4 (txo y.t (.slice (some ⟨gc, 0, none⟩) y.t.xs.length cC) (.slice (some ⟨ga, 0, none⟩) y.t.vs.length cA) 30))).ol; rwa [hzl] at this) _ 1 ([(⟨y.t, some ⟨gc, 0, none⟩, cC, some ⟨ga, 0, none⟩, cA⟩ : Tx2)].flatMap Tx2.cells) rfl (rft_new W4 ⟨y.t, some ⟨gc, 0, none⟩, cC, some ⟨ga, 0, none⟩, cA⟩) (by omega) (by unfold maxLen; omega) (by simp; omega) ?_
            intro aL2 cL2 w5 hown hgrow hat
            have H5 := hid ((H4.out.below (below1 W4 (txo y.t (.slice (some ⟨gc, 0, none⟩) y.t.xs.length cC) (.slice (some ⟨ga, 0, none⟩) y.t.vs.length cA) 30))).close (t := y.t) (by rw [hzl]; exact hown.out) hgrow.out)
            clear hown hgrow hat))
          go_roundw
          case rel => exact ⟨n + 1, zs ++ [⟨y.t, some ⟨gc, 0, none⟩, cC, some ⟨ga, 0, none⟩, cA⟩], aL2, cL2, by omega, by go_num, rfl, by simp [hzl], hid (HMT.out _ rfl), H5⟩
          case measure => simp [intOf]; omega
    · have hnN : n = ys.length := by omega
      have hd4 : decide ((n : Int) < (ys.length : Int)) = false := by simp; omega
      have HZ2 : Hid (zs.map Tx2.t = ys.map Tx2.t) := hid (by have := hZ.out; rwa [List.take_of_length_le (by omega)] at this)
      have HnN := hid hnN
      clear hnN
      go_wp2
      clear p0 p1 pz
      go_loopw [3, 9] (fun l ik wz => ∃ (k : Nat) (aM : Option Addr) (cM : Nat), k ≤ 5 ∧ ik = .int .i64 k ∧ l = .slice aM (n + k) cM ∧ Hid (Twl w wz f (.slice ao ys.length cap) (.slice aM (n + k) cM) zs k)) (fun _ ik _ => 5 - (intOf ik).toNat)
      case atStart => exact ⟨0, aL, cL, by omega, rfl, by simp, hid (by simpa using hT.out)⟩
      case round =>
        rename World => wz
        clear hT
        obtain ⟨k, aM, cM, hk, rfl, rfl, hI⟩ := hrel
        by_cases hk5 : k < 5
        · have hk5' : (k : Int) < 5 := by omega
          have w70 : wrap64 (70 + (k : Int)) = 70 + (k : Int) := by unfold wrap64; omega
          have hwz := lt_of hI.out.r1
          go_wp2_with (at_builtin; go_loud (
            refine wpList_append_rf _ rfl _ _ 22 30 (.agg tCells) 6 96 rfl Tryz.underlying22 Tryz.info30z rfl (by decide) (w.heap.size + 2) _ (n + k) _ rfl (by have := (hI.out.below (below1 wz (tz (70 + (k : Int)) emp (.slice none 0 0)))).ol; rwa [hzl] at this) _ 1 ([tMark k].flatMap Tx2.cells) rfl (rft_new wz (tMark k)) (by omega) (by unfold maxLen; omega) (by simp; omega) ?_
            intro aM2 cM2 w2 hown hgrow hat
            have H2 := hid ((hI.out.below (below1 wz (tz (70 + (k : Int)) emp (.slice none 0 0)))).app (by rw [hzl]; exact hown.out) hgrow.out)
            clear hown hgrow hat))
          go_roundw
          case rel => exact ⟨k + 1, aM2, cM2, by omega, by go_num, by simp [Nat.add_assoc], H2⟩
          case measure => simp [intOf]; omega
        · obtain rfl : k = 5 := by omega
          have HOl := hid (own_ts (zs := zs ++ tMarks 5) (by have := hI.out.ol; rwa [show zs.length + 5 = (zs ++ tMarks 5).length by simp [tMarks]] at this) (by simp [tMarks, hzl]) (by omega))
          obtain ⟨tb, cur, rfl, e2, e3, e4, e5⟩ := HOl.out
          have HE := hid (And.intro e2 (And.intro e3 (And.intro e4 e5)))
          obtain ⟨p0, p1, pz⟩ := vfacts2 hI.out.r0
          obtain ⟨q0, q1, qz⟩ := vfacts2 hI.out.r1
          have hcM : (ys.length : Int) ≤ (cM : Int) := by have := HnN.out; omega
          clear e2 e4 e5 HOl
          go_wp2
          obtain ⟨f1, f2⟩ := Twl.fin hI.out HZ2.out (by rw [List.length_map]; exact HnN.out.symm) HE.out.1 e3 HE.out.2.2.1 HE.out.2.2.2 (.slice (some ⟨tb, 0, none⟩) ys.length cM) (by rw [HnN.out])
          refine bodyPost_ret (retB Tryz.results7 rfl f1) rfl ?_
          exact f2

end Go.Proofs.YtdnlfacfleemeaaGreat

namespace Go.Proofs.YtdnlfacfleemeaaGreat
open Go.RowKit Go.Lib

/-- A batch and a transaction as a law is handed them. -/
structure Bx (w W : World) (f : Int) (S : Value) (x : Tx2) : Prop where
  r4 : W.heap[w.heap.size]? = some (bo f S)
  r5 : W.heap[w.heap.size + 1]? = some (txo x.t x.S1 x.S2 30)
  hb : Below w.heap.size w W

theorem Bx.below {w W W' : World} {f : Int} {S : Value} {x : Tx2} (h : Bx w W f S x) (hb : Below W.heap.size W W') : Bx w W' f S x := ⟨blk_of hb h.r4 (lt_of h.r4), blk_of hb h.r5 (lt_of h.r5), below_on h.hb hb⟩

theorem bx_start (w : World) (f : Int) (S : Value) (x : Tx2) : Bx w ((w.alloc (bo f S)).alloc (txo x.t x.S1 x.S2 30)) f S x := ⟨two1 w _ _, two2 w _ _, below2 w _ _⟩

theorem one_ts {w W : World} {x : Tx2} (hx : Tx2Ok w x) (hb : Below w.heap.size w W) : TsAt 0 (W.alloc (txo x.t x.S1 x.S2 30)) (.slice (some ⟨W.heap.size, 0, none⟩) 1 1) [x.t] := by
  refine ⟨_, _, rfl, Nat.le_refl _, fun _ => ⟨_, _, rfl, Nat.zero_le _, fun j t ht => ?_⟩⟩
  have hj : j = 0 := by
    have := (List.getElem?_eq_some_iff.1 ht).1
    simpa using this
  subst hj
  simp at ht
  subst ht
  obtain ⟨c0, c1, c2, c3, c4, c5, -⟩ := vfacts6 (heap_alloc_new W (txo x.t x.S1 x.S2 30))
  have hb2 := below_on hb (below1 W (txo x.t x.S1 x.S2 30))
  exact ⟨_, _, ⟨c0, c1, c2, c3, c4, c5⟩, hx.1.same (Same.below hb2), hx.2.1.same (Same.below hb2)⟩

/-- A twin in a world. -/
structure Tn (B : Nat) (W : World) (tb c : Nat) (zs : List Tx2) (ts : List Txd) : Prop where
  hz : zs.map Tx2.t = ts
  hc : ts.length + 5 ≤ c
  hB : B ≤ tb
  bk : ∃ cur, W.heap[tb]? = some (.cells cur 30 (0, 0))
  at' : ∀ (j : Nat) (z : Tx2), (zs ++ tMarks 5)[j]? = some z → TxC W tb (j * 6) z.t z.S1 z.S2
  zl : ∀ z ∈ zs, ZL B W.heap.size W z

theorem Tn.below {B : Nat} {W W' : World} {tb c : Nat} {zs : List Tx2} {ts : List Txd} (h : Tn B W tb c zs ts) (hb : Below W.heap.size W W') : Tn B W' tb c zs ts := by
  obtain ⟨cur, hc⟩ := h.bk
  have hs := hb.block _ (lt_of hc)
  exact ⟨h.hz, h.hc, h.hB, ⟨cur, hs.trans hc⟩, fun j z hz => (h.at' j z hz).same hs, fun z hz => (h.zl z hz).keep hb.size (Kept.ofBelow hb) (fun _ _ _ _ _ _ _ h => h)⟩

theorem Tn.get {B : Nat} {W : World} {tb c : Nat} {zs : List Tx2} {ts : List Txd} (h : Tn B W tb c zs ts) {j : Nat} {t : Txd} (ht : ts[j]? = some t) : ∃ z, z ∈ zs ∧ z.t = t ∧ TxC W tb (j * 6) t z.S1 z.S2 := by
  rw [← h.hz, List.getElem?_map] at ht
  cases hy : zs[j]? with
  | none => rw [hy] at ht; cases ht
  | some z =>
    rw [hy] at ht
    injection ht with ht
    subst ht
    refine ⟨z, List.mem_of_getElem? hy, rfl, h.at' j z ?_⟩
    rw [List.getElem?_append_left (List.getElem?_eq_some_iff.1 hy).1]
    exact hy

theorem Tn.ts {B : Nat} {W : World} {tb c : Nat} {zs : List Tx2} {ts : List Txd} (h : Tn B W tb c zs ts) : TsAt 0 W (.slice (some ⟨tb, 0, none⟩) ts.length c) ts := by
  have := h.hc
  refine ⟨_, _, rfl, by omega, fun _ => ⟨tb, 0, rfl, Nat.zero_le _, fun j t ht => ?_⟩⟩
  obtain ⟨z, hz, rfl, hc⟩ := h.get ht
  rw [Nat.zero_add]
  exact ⟨_, _, hc, (h.zl z hz).cd.mono (Nat.zero_le _), (h.zl z hz).vs.mono (Nat.zero_le _)⟩

/-- Another transaction stands in it. -/
theorem Tn.set {w W : World} {B tb c : Nat} {zs : List Tx2} {ts : List Txd} (h : Tn B W tb c zs ts) (hb : Below w.heap.size w W) (hB : w.heap.size ≤ B) {x : Tx2} (hx : Tx2Ok w x) {i : Nat} (hi : i < ts.length) :
    TsAt 0 (put6o W tb (i * 6) (.int .i64 x.t.k) (.string x.t.pn) (.int .i64 x.t.pa) x.S1 (.string x.t.nm) x.S2) (.slice (some ⟨tb, 0, none⟩) ts.length c) (ts.set i x.t) ∧ Kept (fun k => k = tb) W (put6o W tb (i * 6) (.int .i64 x.t.k) (.string x.t.pn) (.int .i64 x.t.pa) x.S1 (.string x.t.nm) x.S2) := by
  have hk := kept6o W tb (i * 6) (.int .i64 x.t.k) (.string x.t.pn) (.int .i64 x.t.pa) x.S1 (.string x.t.nm) x.S2
  have hc := h.hc
  have hBt := h.hB
  refine ⟨⟨_, _, by rw [List.length_set], by rw [List.length_set]; omega, fun _ => ⟨tb, 0, rfl, Nat.zero_le _, fun j t ht => ?_⟩⟩, hk⟩
  rw [Nat.zero_add]
  have hb2 : Below w.heap.size w (put6o W tb (i * 6) (.int .i64 x.t.k) (.string x.t.pn) (.int .i64 x.t.pa) x.S1 (.string x.t.nm) x.S2) := hb.trans (hk.below hb.size (fun k h1 h2 => by omega))
  by_cases hji : j = i
  · subst hji
    rw [List.getElem?_set_self hi] at ht
    injection ht with ht
    subst ht
    obtain ⟨u, hu⟩ : ∃ u, ts[j]? = some u := ⟨_, List.getElem?_eq_getElem hi⟩
    obtain ⟨z, hz, _, hcz⟩ := h.get hu
    exact ⟨_, _, put6_at hcz x.t x.S1 x.S2, hx.1.same (Same.below hb2), hx.2.1.same (Same.below hb2)⟩
  · rw [List.getElem?_set_ne (fun e => hji e.symm)] at ht
    obtain ⟨z, hz, rfl, hcz⟩ := h.get ht
    have hzl := (h.zl z hz).keep (C' := W.heap.size) (Nat.le_refl _) hk (fun g cur ty _ _ h2 h3 e => by
      obtain ⟨cu, hcu⟩ := h.bk
      rw [e, hcu] at h2
      simp at h2
      exact h3 h2.2.symm)
    exact ⟨_, _, hcz.moved (fun m hm => put6_off _ _ _ _ _ _ (by omega)), hzl.cd.mono (Nat.zero_le _), hzl.vs.mono (Nat.zero_le _)⟩

theorem set_all {P : Txd → Prop} {ts : List Txd} {i : Nat} {x : Txd} (h : ∀ t ∈ ts, P t) (hx : P x) : ∀ t ∈ ts.set i x, P t := by
  intro t ht
  rcases List.mem_or_eq_of_mem_set ht with h1 | h1
  · exact h t h1
  · rw [h1]; exact hx

theorem sma_L {ts : List Txd} (h : Sma ts) : ∀ t ∈ ts, TxL t := fun t ht => ⟨by have := (h.2 t ht).2; omega, by have := (h.2 t ht).1; omega⟩

end Go.Proofs.YtdnlfacfleemeaaGreat
