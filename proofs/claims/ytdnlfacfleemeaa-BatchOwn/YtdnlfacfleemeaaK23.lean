import Derived.Test.YtdnlfacfleemeaaK22
import Derived.Deep.Cut
import Derived.Test.YtdnlfacfleemeaaK15
import Derived.Test.YtdnlfacfleemeaaK20
namespace Go.Proofs.Ytdnlfacfleemeaa
open Go.RowKit Go.Lib

theorem vowns_new (w : World) (B : Nat) (v : Vd) (hB : B ≤ w.heap.size) : (w.alloc (vo v.k v.i v.t)).ownsRow B 50 3 (.slice (some ⟨w.heap.size, 0, none⟩) 1 1) [v].length ([v].flatMap Vd.cells) := by
  refine ⟨by simp [Vd.cells], .inr ⟨w.heap.size, 1, _, rfl, hB, heap_alloc_new w _, Nat.le_refl _, by decide, by simp, ?_⟩⟩
  simp [Vd.cells]

theorem rfv_new (w : World) (v : Vd) : Rf (w.alloc (vo v.k v.i v.t)) 3 (.slice (some ⟨w.heap.size, 0, none⟩) 1 1) 1 ([v].flatMap Vd.cells) := rf_of_owns (vowns_new w 0 v (Nat.zero_le _)) (all_oneV _)
theorem rfi_new (w : World) (x : Ins) : Rf (w.alloc (io x.op x.a x.b x.c x.n x.k x.i x.t)) 8 (.slice (some ⟨w.heap.size, 0, none⟩) 1 1) 1 ([x].flatMap Ins.cells) := rf_of_owns (owns_new w 0 x (Nat.zero_le _)) (all_one _)

theorem all_oneT (zs : List Tx2) : ∀ u ∈ zs.flatMap Tx2.cells, u.oneCell' = true := by
  intro u hu
  obtain ⟨x, _, hx⟩ := List.mem_flatMap.1 hu
  exact tx2_one x u hx

theorem rft_new (w : World) (z : Tx2) : Rf (w.alloc (txo z.t z.S1 z.S2 30)) 6 (.slice (some ⟨w.heap.size, 0, none⟩) 1 1) 1 ([z].flatMap Tx2.cells) := by
  have h : (w.alloc (txo z.t z.S1 z.S2 30)).ownsRow 0 30 6 (.slice (some ⟨w.heap.size, 0, none⟩) 1 1) [z].length ([z].flatMap Tx2.cells) := by
    refine ⟨by simp [Tx2.cells], .inr ⟨w.heap.size, 1, _, rfl, Nat.zero_le _, heap_alloc_new w _, Nat.le_refl _, by decide, by simp, ?_⟩⟩
    simp [Tx2.cells]
  exact rf_of_owns h (all_oneT _)

/-- What twin leaves. -/
def TwB (w : World) (f : Int) (ts : List Txd) (e : Ending) (w' : World) : Prop :=
  ∃ (zs : List Tx2) (tb c : Nat) (cur : Array Value), e = .returned (.agg #[.int .i64 f, .slice (some ⟨tb, 0, none⟩) ts.length c]) ∧ zs.map Tx2.t = ts ∧ ts.length + 5 ≤ c ∧ w.heap.size ≤ tb ∧ w'.heap[tb]? = some (.cells cur 30 (0, 0)) ∧
    (∀ (j : Nat) (z : Tx2), (zs ++ tMarks 5)[j]? = some z → TxC w' tb (j * 6) z.t z.S1 z.S2) ∧ (∀ z ∈ zs, ZL w.heap.size w'.heap.size w' z) ∧ Below w.heap.size w w'

theorem box_set {W : World} {q : Nat} {t : Txd} {S1 S2 : Value} (h : W.heap[q]? = some (txo t S1 S2 30)) (T1 T2 : Value) :
    ((W.setCell ⟨q, 5, none⟩ T2).setCell ⟨q, 3, none⟩ T1).heap[q]? = some (txo t T1 T2 30) ∧ Kept (fun k => k = q) W ((W.setCell ⟨q, 5, none⟩ T2).setCell ⟨q, 3, none⟩ T1) :=
  ⟨by simp [World.setCell, Array.getElem?_modify, h], ((Kept.refl (fun k => k = q) W).setCell (p := ⟨q, 5, none⟩) (fun _ => rfl) _).setCell (p := ⟨q, 3, none⟩) (fun _ => rfl) _⟩

theorem own_ts {W : World} {B : Nat} {ao : Option Addr} {n c : Nat} {zs : List Tx2} (h : W.ownsRow B 30 6 (.slice ao n c) zs.length (zs.flatMap Tx2.cells)) (hn : zs.length = n) (h0 : 0 < n) :
    ∃ g cur, ao = some ⟨g, 0, none⟩ ∧ B ≤ g ∧ n ≤ c ∧ W.heap[g]? = some (.cells cur 30 (0, 0)) ∧ ∀ (j : Nat) (z : Tx2), zs[j]? = some z → TxC W g (j * 6) z.t z.S1 z.S2 := by
  have hr := rf_of_owns h (all_oneT _)
  rcases h.2 with ⟨e1, e2⟩ | ⟨g, cap, cur, e1, hB, hgg, hle, _⟩
  · injection e1 with _ e3 _
    omega
  · injection e1 with e1 e2 e3
    refine ⟨g, cur, e1, hB, by omega, hgg, ?_⟩
    intro j z hz
    obtain ⟨b, off, cap', e4, hat⟩ := tx2_get hr hz
    injection e4 with e4 _ _
    rw [e1] at e4
    injection e4 with e4
    injection e4 with e5 e6 _
    subst e5 e6
    rwa [Nat.zero_add] at hat

theorem Twl.fin {w W : World} {f : Int} {S : Value} {zs : List Tx2} {n c tb : Nat} {cur : Array Value} {ts : List Txd} (h : Twl w W f S (.slice (some ⟨tb, 0, none⟩) (n + 5) c) zs 5) (hz : zs.map Tx2.t = ts) (hn : ts.length = n) (hB : w.heap.size + 2 ≤ tb) (hc : n + 5 ≤ c) (hblk : W.heap[tb]? = some (.cells cur 30 (0, 0)))
    (hat : ∀ (j : Nat) (z : Tx2), (zs ++ tMarks 5)[j]? = some z → TxC W tb (j * 6) z.t z.S1 z.S2) (S' : Value) (hS : S' = .slice (some ⟨tb, 0, none⟩) n c) :
    (((W.setCell ⟨w.heap.size, 1, none⟩ S').setCell ⟨w.heap.size + 1, 0, none⟩ (.int .i64 f)).setCell ⟨w.heap.size + 1, 1, none⟩ S').heap[w.heap.size + 1]? = some (.cells #[.int .i64 f, S'] 24 (0, 0)) ∧
    TwB w f ts (.returned (.agg #[.int .i64 f, S'])) (((W.setCell ⟨w.heap.size, 1, none⟩ S').setCell ⟨w.heap.size + 1, 0, none⟩ (.int .i64 f)).setCell ⟨w.heap.size + 1, 1, none⟩ S') := by
  have hk : Kept (fun k => k = w.heap.size ∨ k = w.heap.size + 1) W (((W.setCell ⟨w.heap.size, 1, none⟩ S').setCell ⟨w.heap.size + 1, 0, none⟩ (.int .i64 f)).setCell ⟨w.heap.size + 1, 1, none⟩ S') :=
    (((Kept.refl (fun k => k = w.heap.size ∨ k = w.heap.size + 1) W).setCell (p := ⟨w.heap.size, 1, none⟩) (fun _ => .inl rfl) _).setCell (p := ⟨w.heap.size + 1, 0, none⟩) (fun _ => .inr rfl) _).setCell (p := ⟨w.heap.size + 1, 1, none⟩) (fun _ => .inr rfl) _
  have e1 : (W.setCell ⟨w.heap.size, 1, none⟩ S').heap[w.heap.size + 1]? = some (bo 0 (.slice none 0 0)) := (Below.heap_setCell _ _ _ _ (by show w.heap.size + 1 ≠ w.heap.size; omega)).trans h.r1
  refine ⟨by generalize W.setCell ⟨w.heap.size, 1, none⟩ S' = V at e1; simp [World.setCell, Array.getElem?_modify, e1], zs, tb, c, cur, by rw [hS, hn], hz, by omega, by omega, (hk.block tb (lt_of hblk) (by omega)).trans hblk, fun j z hz => (hat j z hz).same (hk.block tb (lt_of hblk) (by omega)), ?_, h.hb.trans (hk.below h.hb.size (fun k h1 h2 => by omega))⟩
  intro z hz
  have := (h.zl z hz).keep hk.size hk (fun g _ _ h1 _ _ _ => by omega)
  obtain ⟨⟨g, cu, a1, a2, a3⟩, ⟨g', cu', b1, b2, b3⟩⟩ := this
  exact ⟨⟨g, cu, a1, by omega, a3⟩, ⟨g', cu', b1, by omega, b3⟩⟩

theorem mapT_take {zs ys : List Tx2} {n : Nat} {y : Tx2} {z : Tx2} (h : zs.map Tx2.t = (ys.take n).map Tx2.t) (hy : ys[n]? = some y) (hz : z.t = y.t) : (zs ++ [z]).map Tx2.t = (ys.take (n + 1)).map Tx2.t := by
  rw [List.take_add_one, hy, List.map_append, List.map_append, h]
  simp [hz]

set_option maxRecDepth 100000 in
set_option maxHeartbeats 16000000 in
theorem twin_any (f : Int) (S : Value) (ys : List Tx2) (w : World) (h : BatR w S ys) (hs : Sma (ys.map Tx2.t)) : Calls Try.prog 12 #[.agg #[.int .i64 f, S]] w (TwB w f (ys.map Tx2.t)) := by
  have HB := hid h
  have HSm := hid hs
  have hlen : ys.length ≤ 300 := by have := hs.1; rwa [List.length_map] at this
  obtain ⟨ao, cap, rfl, hcap, _⟩ := h.1.shape
  have hb0 := below2 w (bo f (.slice ao ys.length cap)) (bo 0 (.slice none 0 0))
  have H0 : Hid (Twl w ((w.alloc (bo f (.slice ao ys.length cap))).alloc (bo 0 (.slice none 0 0))) f (.slice ao ys.length cap) (.slice none 0 0) [] 0) :=
    hid ⟨two1 w _ _, two2 w _ _, World.ownsRow_nil _ _ _ _, fun z hz => by simp at hz, hb0⟩
  clear h hs hcap hb0
  go_enter Try.func12, Try.ntmps12
  go_wp2
  go_loopw [3, 4] (fun l ix wr => ∃ (n : Nat) (zs : List Tx2) (aL : Option Addr) (cL : Nat), n ≤ ys.length ∧ ix = .int .i64 n ∧ l = .slice aL n cL ∧ zs.length = n ∧ Hid (zs.map Tx2.t = (ys.take n).map Tx2.t) ∧ Hid (Twl w wr f (.slice ao ys.length cap) (.slice aL n cL) zs 0)) (fun _ ix _ => ys.length - (intOf ix).toNat)
  case atStart => exact ⟨0, [], none, 0, Nat.zero_le _, rfl, rfl, rfl, hid (by simp), H0⟩
  case round =>
    clear H0
    obtain ⟨n, zs, aL, cL, hn, rfl, rfl, hzl, hZ, hT⟩ := hrel
    obtain ⟨p0, p1, pz⟩ := vfacts2 hT.out.r0
    by_cases hlt : n < ys.length
    · obtain ⟨y, hy⟩ : ∃ y, ys[n]? = some y := ⟨_, List.getElem?_eq_getElem hlt⟩
      obtain ⟨b, off, cap', e1, hc⟩ := tx2_get HB.out.1 hy
      injection e1 with e1 e2 e3
      subst e1
      clear e2 e3
      obtain ⟨d0, d1, d2, d3, d4, d5⟩ := hc.same (hT.out.hb.block b hc.lt)
      have hym := List.mem_of_getElem? hy
      have HRy := hid (HB.out.2 y hym)
      have hsm := HSm.out.2 y.t (List.mem_map_of_mem hym)
      have hv300 := hsm.1
      have hx300 := hsm.2
      have hlt' : (n : Int) < (ys.length : Int) := by omega
      have m2 := World.new_ne wr ⟨b, off + n * 6, none⟩ d0
      have H1 := hid (twi_start hT.out (txo y.t y.S1 y.S2 30))
      have HMT := hid (fun (z : Tx2) hz => mapT_take (z := z) hZ.out hy hz)
      clear hc hym hsm
      clear hy
      go_wp2_with (at_builtin; go_loud (first
        | (refine wpList_append_rf _ rfl _ _ 28 50 (.agg vCells) 3 32 rfl Try.underlying28 Try.info50z rfl (by decide) (wr.heap.size + 1) _ 0 [] rfl H1.out.oa _ y.t.vs.length _ rfl (HRy.out.2.1.below H1.out.hb) (by omega) (by unfold maxLen; omega) (by simp) ?_
           intro aA cA w2 hown hgrow hat
           have H2 := hid (H1.out.appA (us := y.t.vs) (by simpa using hown.out) hgrow.out)
           obtain ⟨q0, q1, q2, q3, q4, q5, qz⟩ := vfacts6 H2.out.q
           have hw2 := lt_of H2.out.q
           clear hown hgrow hat)
        | (refine wpList_append_rf _ rfl _ _ 25 52 (.agg zCells) 8 72 rfl Try.underlying25 Try.info52z rfl (by decide) (wr.heap.size + 1) _ 0 [] rfl H2.out.oc _ y.t.xs.length _ rfl (HRy.out.1.below H2.out.hb) (by omega) (by unfold maxLen; omega) (by omega) ?_
           intro aC cC w3 hown hgrow hat
           have H3 := hid (H2.out.appC (us := y.t.xs) (by simpa using hown.out) hgrow.out)
           clear hown hgrow hat)))
      clear H1 H2 q0 q1 q2 q3 q4 q5 qz hw2 d0 d1 d2 d3 d4 d5 m2 p0 p1 pz
      go_loopw [6, 7, 8] (fun la lc ik wz => ∃ (k : Nat) (aA : Option Addr) (cA : Nat) (aC : Option Addr) (cC : Nat), k ≤ 5 ∧ ik = .int .i64 k ∧ la = .slice aA (y.t.vs.length + k) cA ∧ lc = .slice aC (y.t.xs.length + k) cC ∧ Hid (Twi w wr wz f (.slice (some ⟨b, off, none⟩) ys.length cap) (.slice aL n cL) zs (txo y.t y.S1 y.S2 30) (.slice aA (y.t.vs.length + k) cA) (.slice aC (y.t.xs.length + k) cC) (y.t.vs ++ vMarks k) (y.t.xs ++ iMarks k))) (fun _ _ ik _ => 5 - (intOf ik).toNat)
      case atStart => exact ⟨0, aA, cA, aC, cC, by omega, rfl, by simp, by simp, hid (by simpa [vMarks, iMarks] using H3.out)⟩
      case round =>
        rename World => wz
        clear H3
        obtain ⟨k, aA, cA, aC, cC, hk, rfl, rfl, rfl, hI⟩ := hrel
        by_cases hk5 : k < 5
        · have hk5' : (k : Int) < 5 := by omega
          have w50 : wrap64 (50 + (k : Int)) = 50 + (k : Int) := by unfold wrap64; omega
          have w60 : wrap64 (60 + (k : Int)) = 60 + (k : Int) := by unfold wrap64; omega
          have hlA : (y.t.vs ++ vMarks k).length = y.t.vs.length + k := by simp [vMarks]
          have hlC : (y.t.xs ++ iMarks k).length = y.t.xs.length + k := by simp [iMarks]
          have HLA := hid (And.intro hlA hlC)
          have hwz := lt_of hI.out.q
          clear hlA hlC
          go_wp2_with (at_builtin; go_loud (first
            | (refine wpList_append_rf _ rfl _ _ 28 50 (.agg vCells) 3 32 rfl Try.underlying28 Try.info50z rfl (by decide) (wr.heap.size + 1) _ (y.t.vs.length + k) _ rfl (by have := (hI.out.below (below1 wz (vo (50 + (k : Int)) 0 emp))).oa; rwa [HLA.out.1] at this) _ 1 ([vMark k].flatMap Vd.cells) rfl (rfv_new wz (vMark k)) (by omega) (by unfold maxLen; omega) (by simp; omega) ?_
               intro aA2 cA2 w2 hown hgrow hat
               have H2 := hid ((hI.out.below (below1 wz (vo (50 + (k : Int)) 0 emp))).appA (us := [vMark k]) (by rw [HLA.out.1]; exact hown.out) hgrow.out)
               have hw2 := lt_of H2.out.q
               clear hown hgrow hat)
            | (refine wpList_append_rf _ rfl _ _ 25 52 (.agg zCells) 8 72 rfl Try.underlying25 Try.info52z rfl (by decide) (wr.heap.size + 1) _ (y.t.xs.length + k) _ rfl (by have := (H2.out.below (below1 w2 (io (60 + (k : Int)) 0 0 0 0 0 0 emp))).oc; rwa [HLA.out.2] at this) _ 1 ([iMark k].flatMap Ins.cells) rfl (rfi_new w2 (iMark k)) (by omega) (by unfold maxLen; omega) (by simp; omega) ?_
               intro aC2 cC2 w3 hown hgrow hat
               have H3 := hid ((H2.out.below (below1 w2 (io (60 + (k : Int)) 0 0 0 0 0 0 emp))).appC (us := [iMark k]) (by rw [HLA.out.2]; exact hown.out) hgrow.out)
               clear hown hgrow hat)))
          go_roundw
          case rel =>
            refine ⟨k + 1, aA2, cA2, aC2, cC2, by omega, by go_num, by simp [Nat.add_assoc], by simp [Nat.add_assoc], hid ?_⟩
            have := H3.out
            rw [List.append_assoc, List.append_assoc, ← vMarks_succ, ← iMarks_succ] at this
            exact this
          case measure => simp [intOf]; omega
        · obtain rfl : k = 5 := by omega
          obtain ⟨ga, cura, rfl, a2, a3, a4, a5⟩ := own_vs hI.out.oa (by simp [vMarks]) (by omega)
          obtain ⟨gc, curc, rfl, b2, b3, b4, b5⟩ := own_xs hI.out.oc (by simp [iMarks]) (by omega)
          obtain ⟨q0, q1, q2, q3, q4, q5, qz⟩ := vfacts6 hI.out.q
          have hcA : (y.t.vs.length : Int) ≤ (cA : Int) := by omega
          have hcC : (y.t.xs.length : Int) ≤ (cC : Int) := by omega
          clear a2 a4 a5 b2 b4 b5
          go_upto_region 17 with fail
          have HQ := hid (box_set hI.out.q (.slice (some ⟨gc, 0, none⟩) y.t.xs.length cC) (.slice (some ⟨ga, 0, none⟩) y.t.vs.length cA))
          have H4 := hid (hI.out.put HQ.out.2 HQ.out.1)
          generalize (wz.setCell ⟨wr.heap.size, 5, none⟩ (.slice (some ⟨ga, 0, none⟩) y.t.vs.length cA)).setCell ⟨wr.heap.size, 3, none⟩ (.slice (some ⟨gc, 0, none⟩) y.t.xs.length cC) = W4 at *
          clear HQ q0 q1 q2 q3 q4 q5 qz hI
          obtain ⟨q0, q1, q2, q3, q4, q5, qz⟩ := vfacts6 H4.out.q
          have hw4 := lt_of H4.out.q
          have lw4 := H4.out.lw
          go_wp2_with (at_builtin; go_loud (
            refine wpList_append_rf _ rfl _ _ 22 30 (.agg tCells) 6 96 rfl Try.underlying22 Try.info30z rfl (by decide) (w.heap.size + 2) _ n _ rfl (by have := (H4.out.below (below1 W4 (txo y.t (.slice (some ⟨gc, 0, none⟩) y.t.xs.length cC) (.slice (some ⟨ga, 0, none⟩) y.t.vs.length cA) 30))).ol; rwa [hzl] at this) _ 1 ([(⟨y.t, some ⟨gc, 0, none⟩, cC, some ⟨ga, 0, none⟩, cA⟩ : Tx2)].flatMap Tx2.cells) rfl (rft_new W4 ⟨y.t, some ⟨gc, 0, none⟩, cC, some ⟨ga, 0, none⟩, cA⟩) (by omega) (by unfold maxLen; omega) (by simp; omega) ?_
            intro aL2 cL2 w5 hown hgrow hat
            have H5 := hid ((H4.out.below (below1 W4 (txo y.t (.slice (some ⟨gc, 0, none⟩) y.t.xs.length cC) (.slice (some ⟨ga, 0, none⟩) y.t.vs.length cA) 30))).close (t := y.t) (by rw [hzl]; exact hown.out) hgrow.out)
            clear hown hgrow hat))
          go_roundw
          case rel => exact ⟨n + 1, zs ++ [⟨y.t, some ⟨gc, 0, none⟩, cC, some ⟨ga, 0, none⟩, cA⟩], aL2, cL2, by omega, by go_num, rfl, by simp [hzl], hid (HMT.out _ rfl), H5⟩
          case measure => simp [intOf]; omega
    · have hnN : n = ys.length := by omega
      have hd4 : decide ((n : Int) < (ys.length : Int)) = false := by simp; omega
      have HZ2 : Hid (zs.map Tx2.t = ys.map Tx2.t) := hid (by have := hZ.out; rwa [List.take_of_length_le (by omega)] at this)
      have HnN := hid hnN
      clear hnN
      go_wp2
      clear p0 p1 pz
      go_loopw [3, 9] (fun l ik wz => ∃ (k : Nat) (aM : Option Addr) (cM : Nat), k ≤ 5 ∧ ik = .int .i64 k ∧ l = .slice aM (n + k) cM ∧ Hid (Twl w wz f (.slice ao ys.length cap) (.slice aM (n + k) cM) zs k)) (fun _ ik _ => 5 - (intOf ik).toNat)
      case atStart => exact ⟨0, aL, cL, by omega, rfl, by simp, hid (by simpa using hT.out)⟩
      case round =>
        rename World => wz
        clear hT
        obtain ⟨k, aM, cM, hk, rfl, rfl, hI⟩ := hrel
        by_cases hk5 : k < 5
        · have hk5' : (k : Int) < 5 := by omega
          have w70 : wrap64 (70 + (k : Int)) = 70 + (k : Int) := by unfold wrap64; omega
          have hwz := lt_of hI.out.r1
          go_wp2_with (at_builtin; go_loud (
            refine wpList_append_rf _ rfl _ _ 22 30 (.agg tCells) 6 96 rfl Try.underlying22 Try.info30z rfl (by decide) (w.heap.size + 2) _ (n + k) _ rfl (by have := (hI.out.below (below1 wz (tz (70 + (k : Int)) emp (.slice none 0 0)))).ol; rwa [hzl] at this) _ 1 ([tMark k].flatMap Tx2.cells) rfl (rft_new wz (tMark k)) (by omega) (by unfold maxLen; omega) (by simp; omega) ?_
            intro aM2 cM2 w2 hown hgrow hat
            have H2 := hid ((hI.out.below (below1 wz (tz (70 + (k : Int)) emp (.slice none 0 0)))).app (by rw [hzl]; exact hown.out) hgrow.out)
            clear hown hgrow hat))
          go_roundw
          case rel => exact ⟨k + 1, aM2, cM2, by omega, by go_num, by simp [Nat.add_assoc], H2⟩
          case measure => simp [intOf]; omega
        · obtain rfl : k = 5 := by omega
          have HOl := hid (own_ts (zs := zs ++ tMarks 5) (by have := hI.out.ol; rwa [show zs.length + 5 = (zs ++ tMarks 5).length by simp [tMarks]] at this) (by simp [tMarks, hzl]) (by omega))
          obtain ⟨tb, cur, rfl, e2, e3, e4, e5⟩ := HOl.out
          have HE := hid (And.intro e2 (And.intro e3 (And.intro e4 e5)))
          obtain ⟨p0, p1, pz⟩ := vfacts2 hI.out.r0
          obtain ⟨q0, q1, qz⟩ := vfacts2 hI.out.r1
          have hcM : (ys.length : Int) ≤ (cM : Int) := by have := HnN.out; omega
          clear e2 e4 e5 HOl
          go_wp2
          obtain ⟨f1, f2⟩ := Twl.fin hI.out HZ2.out (by rw [List.length_map]; exact HnN.out.symm) HE.out.1 e3 HE.out.2.2.1 HE.out.2.2.2 (.slice (some ⟨tb, 0, none⟩) ys.length cM) (by rw [HnN.out])
          refine bodyPost_ret (retB Try.results12 rfl f1) rfl ?_
          exact f2

end Go.Proofs.Ytdnlfacfleemeaa

namespace Go.Proofs.Ytdnlfacfleemeaa
open Go.RowKit

theorem tkVs_laid (most : Int) : ∀ (vs : List Vd) (ps rest : List Int), (∀ v ∈ vs, chk v.k v.i v.t = 0 ∧ VdOk v ∧ ((encB v.k v.i v.t).length : Int) ≤ most) →
    tkVs (ps ++ (vs.flatMap vB ++ rest)) most vs.length ps.length = .ok (vs, ps.length + (vs.flatMap vB).length) := by
  intro vs
  induction vs with
  | nil => intro ps rest _; simp [tkVs]
  | cons v vs ih =>
    intro ps rest h
    obtain ⟨h1, h2, h3⟩ := h v (by simp)
    have e : ps ++ ((v :: vs).flatMap vB ++ rest) = ps ++ (rowF 10 ((encB v.k v.i v.t).length : Nat) ++ (encB v.k v.i v.t ++ (vs.flatMap vB ++ rest))) := by simp [vB, List.append_assoc]
    have t := tkVal_laid most ps (vs.flatMap vB ++ rest) v.k v.i v.t h2.1 h2.2 h1 h3
    rw [List.length_cons, tkVs, e, t]
    dsimp only
    have e2 : ps ++ (rowF 10 ((encB v.k v.i v.t).length : Nat) ++ (encB v.k v.i v.t ++ (vs.flatMap vB ++ rest))) = (ps ++ vB v) ++ (vs.flatMap vB ++ rest) := by simp [vB, List.append_assoc]
    have e3 : ps.length + ((rowF 10 ((encB v.k v.i v.t).length : Nat)).length + (encB v.k v.i v.t).length) = (ps ++ vB v).length := by simp [vB]
    rw [e2, e3, ih _ _ (fun u hu => h u (by simp [hu]))]
    dsimp only
    rw [mkStr_strBs]
    simp [Nat.add_assoc]

theorem tkTx_laid (t : Txd) (hc : txChk t = 0) (ho : TxOk t) (ps rest : List Int) : tkTx (ps ++ (txB t ++ rest)) ps.length = .ok (t, ps.length + (txB t).length) := by
  rcases txChk_good t hc with ⟨hk, hn, hv, hp⟩ | ⟨hk, hpn, hpa, hx, hnm, hlv, hv⟩
  · obtain ⟨k, pn, pa, xs, nm, vs⟩ := t
    dsimp only at hk hn hv hp
    subst hk hn hv
    have hlen := procB_small pn pa xs hp
    have eB : txB ⟨1, pn, pa, xs, emp, []⟩ = [1] ++ (rowF 10 ((procB pn pa xs).length : Nat) ++ procB pn pa xs) := by unfold txB; dsimp only; rw [if_pos rfl, List.append_assoc]
    rw [eB]
    obtain ⟨bs, hbs⟩ : ∃ bs, bs = ps ++ ([1] ++ (rowF 10 ((procB pn pa xs).length : Nat) ++ procB pn pa xs) ++ rest) := ⟨_, rfl⟩
    have hbl : ((procB pn pa xs).length : Int) ≤ (bs.length : Int) := by rw [hbs]; simp only [List.length_append, List.length_singleton]; omega
    have p1 : bs = ps ++ ([1] ++ (rowF 10 ((procB pn pa xs).length : Nat) ++ (procB pn pa xs ++ rest))) := by rw [hbs]; simp [List.append_assoc]
    have p2 : bs = (ps ++ [1]) ++ (rowF 10 ((procB pn pa xs).length : Nat) ++ (procB pn pa xs ++ rest)) := by rw [hbs]; simp [List.append_assoc]
    have t1 := take_byte ps (rowF 10 ((procB pn pa xs).length : Nat) ++ (procB pn pa xs ++ rest)) 1 (by decide) (by decide)
    have t2 := takeZ_text (bs.length : Int) (ps ++ [1]) (procB pn pa xs) rest hbl (by omega)
    rw [← p1] at t1
    rw [← p2] at t2
    rw [show (ps ++ [(1 : Int)]).length = ps.length + 1 by simp] at t2
    rw [← hbs]
    unfold tkTx
    rw [t1]
    dsimp only
    rw [if_pos rfl, if_pos rfl]
    unfold tkDef
    rw [t2]
    dsimp only
    rw [if_pos rfl, dec_procB pn pa xs hp ho.1]
    dsimp only
    rw [mkStr_strBs]
    congr 2
    simp
    omega
  · obtain ⟨k, pn, pa, xs, nm, vs⟩ := t
    dsimp only at hk hpn hpa hx hnm hlv hv
    subst hk hpn hpa hx
    have hsz := name_size hnm
    have hsl := strBs_len nm
    have eB : txB ⟨2, emp, 0, [], nm, vs⟩ = [2] ++ (rowF 10 ((strBs nm).length : Nat) ++ (strBs nm ++ (rowF 10 (vs.length : Int) ++ vs.flatMap vB))) := by unfold txB; dsimp only; rw [if_neg (by decide)]; simp [List.append_assoc]
    rw [eB]
    obtain ⟨bs, hbs⟩ : ∃ bs, bs = ps ++ ([2] ++ (rowF 10 ((strBs nm).length : Nat) ++ (strBs nm ++ (rowF 10 (vs.length : Int) ++ vs.flatMap vB))) ++ rest) := ⟨_, rfl⟩
    have p1 : bs = ps ++ ([2] ++ (rowF 10 ((strBs nm).length : Nat) ++ (strBs nm ++ (rowF 10 (vs.length : Int) ++ (vs.flatMap vB ++ rest))))) := by rw [hbs]; simp [List.append_assoc]
    have p2 : bs = (ps ++ [2]) ++ (rowF 10 ((strBs nm).length : Nat) ++ (strBs nm ++ (rowF 10 (vs.length : Int) ++ (vs.flatMap vB ++ rest)))) := by rw [hbs]; simp [List.append_assoc]
    have p3 : bs = (ps ++ [2] ++ (rowF 10 ((strBs nm).length : Nat) ++ strBs nm)) ++ (rowF 10 (vs.length : Int) ++ (vs.flatMap vB ++ rest)) := by rw [hbs]; simp [List.append_assoc]
    have p4 : bs = (ps ++ [2] ++ (rowF 10 ((strBs nm).length : Nat) ++ strBs nm) ++ rowF 10 (vs.length : Int)) ++ (vs.flatMap vB ++ rest) := by rw [hbs]; simp [List.append_assoc]
    have hvl : ∀ v ∈ vs, ((encB v.k v.i v.t).length : Int) ≤ (bs.length : Int) := by
      intro v hv2
      have h1 : (vB v).length ≤ (vs.flatMap vB).length := by
        clear hv hlv hbs p1 p2 p3 p4 eB hc ho
        induction vs with
        | nil => simp at hv2
        | cons y ys ih =>
          rw [List.flatMap_cons, List.length_append]
          rcases List.mem_cons.1 hv2 with rfl | h
          · omega
          · have := ih h; omega
      have h2 : (encB v.k v.i v.t).length ≤ (vB v).length := by unfold vB; rw [List.length_append]; omega
      rw [p4]
      simp only [List.length_append]
      omega
    have t1 := take_byte ps (rowF 10 ((strBs nm).length : Nat) ++ (strBs nm ++ (rowF 10 (vs.length : Int) ++ (vs.flatMap vB ++ rest)))) 2 (by decide) (by decide)
    have t2 := takeZ_text 32 (ps ++ [2]) (strBs nm) (rowF 10 (vs.length : Int) ++ (vs.flatMap vB ++ rest)) (by omega) (by omega)
    have t3 := take_num (ps ++ [2] ++ (rowF 10 ((strBs nm).length : Nat) ++ strBs nm)) (vs.flatMap vB ++ rest) (vs.length : Int) (by omega) (by omega)
    have t4 := tkVs_laid (bs.length : Int) vs (ps ++ [2] ++ (rowF 10 ((strBs nm).length : Nat) ++ strBs nm) ++ rowF 10 (vs.length : Int)) rest (fun v hv2 => ⟨hv v hv2, ho.2 v hv2, hvl v hv2⟩)
    rw [← p1] at t1
    rw [← p2] at t2
    rw [← p3] at t3
    rw [← p4] at t4
    have q2 : (ps ++ [(2 : Int)]).length = ps.length + 1 := by simp
    have q3 : ps.length + 1 + ((rowF 10 ((strBs nm).length : Int)).length + (strBs nm).length) = (ps ++ [2] ++ (rowF 10 ((strBs nm).length : Nat) ++ strBs nm)).length := by simp; omega
    have q4 : (ps ++ [2] ++ (rowF 10 ((strBs nm).length : Nat) ++ strBs nm)).length + (rowF 10 (vs.length : Int)).length = (ps ++ [2] ++ (rowF 10 ((strBs nm).length : Nat) ++ strBs nm) ++ rowF 10 (vs.length : Int)).length := by simp only [List.length_append]
    rw [q2] at t2
    rw [← hbs]
    unfold tkTx
    rw [t1]
    dsimp only
    rw [if_pos rfl, if_neg (by decide), if_pos rfl]
    unfold tkCal
    rw [t2]
    dsimp only
    rw [if_pos rfl, q3]
    unfold tkCalN
    rw [t3]
    dsimp only
    rw [if_pos rfl, if_pos (by omega), Int.toNat_natCast, q4, t4]
    dsimp only
    rw [mkStr_strBs]
    congr 2
    simp only [List.length_append, List.length_singleton]
    omega

theorem tkTs_laid : ∀ (ts : List Txd) (ps rest : List Int), (∀ t ∈ ts, txChk t = 0 ∧ TxOk t) → tkTs (ps ++ (ts.flatMap txB ++ rest)) ts.length ps.length = .ok (ts, ps.length + (ts.flatMap txB).length) := by
  intro ts
  induction ts with
  | nil => intro ps rest _; simp [tkTs]
  | cons t ts ih =>
    intro ps rest h
    obtain ⟨h1, h2⟩ := h t (by simp)
    have e : ps ++ ((t :: ts).flatMap txB ++ rest) = ps ++ (txB t ++ (ts.flatMap txB ++ rest)) := by simp [List.append_assoc]
    have e2 : ps ++ (txB t ++ (ts.flatMap txB ++ rest)) = (ps ++ txB t) ++ (ts.flatMap txB ++ rest) := by simp [List.append_assoc]
    have e3 : ps.length + (txB t).length = (ps ++ txB t).length := by simp
    rw [List.length_cons, tkTs, e, tkTx_laid t h1 h2]
    dsimp only
    rw [e2, e3, ih _ _ (fun u hu => h u (by simp [hu]))]
    dsimp only
    simp [Nat.add_assoc]

/-- There and back: P12.4. -/
theorem dec_batB (f : Int) (ts : List Txd) (hc : batChk f ts = 0) (ho : ∀ t ∈ ts, TxOk t) (hl : (batB f ts).length ≤ 65536) : decBat (batB f ts) = .ok (f, ts) := by
  obtain ⟨f0, f1, l0, l1, l2, hts⟩ := batChk_good f ts hc
  have t1 := take_num [] (rowF 10 (ts.length : Int) ++ (ts.flatMap txB ++ [])) f (by omega) (by omega)
  have t2 := take_num (rowF 10 f) (ts.flatMap txB ++ []) (ts.length : Int) (by omega) (by omega)
  have t3 := tkTs_laid ts (rowF 10 f ++ rowF 10 (ts.length : Int)) [] (fun t ht => ⟨tsChk_all ts hts t ht, ho t ht⟩)
  have p1 : batB f ts = [] ++ (rowF 10 f ++ (rowF 10 (ts.length : Int) ++ (ts.flatMap txB ++ []))) := by unfold batB; simp [List.append_assoc]
  have p2 : batB f ts = rowF 10 f ++ (rowF 10 (ts.length : Int) ++ (ts.flatMap txB ++ [])) := by unfold batB; simp [List.append_assoc]
  have p3 : batB f ts = (rowF 10 f ++ rowF 10 (ts.length : Int)) ++ (ts.flatMap txB ++ []) := by unfold batB; simp [List.append_assoc]
  rw [← p1] at t1
  rw [← p2] at t2
  rw [← p3] at t3
  have q1 : ([] : List Int).length + (rowF 10 f).length = (rowF 10 f).length := by simp
  have q2 : (rowF 10 f).length + (rowF 10 (ts.length : Int)).length = (rowF 10 f ++ rowF 10 (ts.length : Int)).length := by simp
  unfold decBat
  rw [if_pos hl]
  have hT : tkBat (batB f ts) = .ok (f, ts) := by
    unfold tkBat
    rw [show takeZ 1 0 (batB f ts) 0 0 = _ from t1]
    dsimp only
    rw [if_pos rfl, q1]
    unfold tkBatN
    rw [t2]
    dsimp only
    rw [if_pos rfl, if_pos (by omega), Int.toNat_natCast, q2, t3]
    unfold tkBEnd
    dsimp only
    have hE : endZ (batB f ts).length ((rowF 10 f ++ rowF 10 (ts.length : Int)).length + (ts.flatMap txB).length) 0 = 0 := by
      unfold endZ
      rw [if_pos rfl, if_neg]
      rw [p3]
      simp
      omega
    rw [hE, if_pos rfl]
  rw [hT]
  dsimp only
  rw [if_pos hc]

theorem batE_ok {f : Int} {ts : List Txd} {l : List Int} (h : batE f ts = .ok l) : batChk f ts = 0 ∧ (batB f ts).length ≤ 65536 ∧ l = batB f ts := by
  unfold batE at h
  split at h
  · split at h
    · rename_i h1 h2
      injection h with h
      exact ⟨h1, h2, h.symm⟩
    · cases h
  · cases h

/-- Two batches have the same bytes just if they are the same. -/
theorem batE_inj {f f' : Int} {ts ts' : List Txd} {l l' : List Int} (h : batE f ts = .ok l) (h' : batE f' ts' = .ok l') (ho : ∀ t ∈ ts, TxOk t) (ho' : ∀ t ∈ ts', TxOk t) : l = l' ↔ f = f' ∧ ts = ts' := by
  obtain ⟨a1, a2, rfl⟩ := batE_ok h
  obtain ⟨b1, b2, rfl⟩ := batE_ok h'
  constructor
  · intro e
    have d1 := dec_batB f ts a1 ho a2
    have d2 := dec_batB f' ts' b1 ho' b2
    rw [e, d2] at d1
    injection d1 with d1
    injection d1 with e1 e2
    exact ⟨e1.symm, e2.symm⟩
  · rintro ⟨rfl, rfl⟩
    rfl

theorem txB_oct (t : Txd) (hc : txChk t = 0) (ho : TxOk t) : Oct (txB t) := by
  rcases txChk_good t hc with ⟨hk, _, _, hp⟩ | ⟨hk, _, _, _, hnm, hlv, hv⟩
  · unfold txB
    rw [if_pos hk]
    have hl := procB_small t.pn t.pa t.xs hp
    exact oct_app (oct_app (fun y hy => by simp at hy; omega) (oct_row 10 _ (by omega) (by omega))) (procB_oct t.pn t.pa t.xs hp ho.1)
  · unfold txB
    rw [if_neg (by omega)]
    have hsz := name_size hnm
    have hsl := strBs_len t.nm
    refine oct_app (oct_app (oct_app (oct_app (fun y hy => by simp at hy; omega) (oct_row 10 _ (by omega) (by omega))) (oct_str t.nm)) (oct_row 10 _ (by omega) (by omega))) ?_
    intro y hy
    obtain ⟨v, hv1, hv2⟩ := List.mem_flatMap.1 hy
    have hl := encB_len v.k v.i v.t (hv v hv1) (ho.2 v hv1).1 (ho.2 v hv1).2
    exact oct_app (oct_row 10 _ (by omega) (by have := hl.1; omega)) hl.2 y hv2

theorem batB_oct (f : Int) (ts : List Txd) (hc : batChk f ts = 0) (ho : ∀ t ∈ ts, TxOk t) : Oct (batB f ts) := by
  obtain ⟨f0, f1, l0, l1, l2, hts⟩ := batChk_good f ts hc
  unfold batB
  refine oct_app (oct_app (oct_row 10 _ (by omega) (by omega)) (oct_row 10 _ (by omega) (by omega))) ?_
  intro y hy
  obtain ⟨t, h1, h2⟩ := List.mem_flatMap.1 hy
  exact txB_oct t (tsChk_all ts hts t h1) (ho t h1) y h2

end Go.Proofs.Ytdnlfacfleemeaa

namespace Go.Proofs.Ytdnlfacfleemeaa
open Go.RowKit Go.Lib

/-- A batch and a transaction as a law is handed them. -/
structure Bx (w W : World) (f : Int) (S : Value) (x : Tx2) : Prop where
  r4 : W.heap[w.heap.size]? = some (bo f S)
  r5 : W.heap[w.heap.size + 1]? = some (txo x.t x.S1 x.S2 30)
  hb : Below w.heap.size w W

theorem Bx.below {w W W' : World} {f : Int} {S : Value} {x : Tx2} (h : Bx w W f S x) (hb : Below W.heap.size W W') : Bx w W' f S x := ⟨blk_of hb h.r4 (lt_of h.r4), blk_of hb h.r5 (lt_of h.r5), below_on h.hb hb⟩

theorem bx_start (w : World) (f : Int) (S : Value) (x : Tx2) : Bx w ((w.alloc (bo f S)).alloc (txo x.t x.S1 x.S2 30)) f S x := ⟨two1 w _ _, two2 w _ _, below2 w _ _⟩

theorem one_ts {w W : World} {x : Tx2} (hx : Tx2Ok w x) (hb : Below w.heap.size w W) : TsAt 0 (W.alloc (txo x.t x.S1 x.S2 30)) (.slice (some ⟨W.heap.size, 0, none⟩) 1 1) [x.t] := by
  refine ⟨_, _, rfl, Nat.le_refl _, fun _ => ⟨_, _, rfl, Nat.zero_le _, fun j t ht => ?_⟩⟩
  have hj : j = 0 := by
    have := (List.getElem?_eq_some_iff.1 ht).1
    simpa using this
  subst hj
  simp at ht
  subst ht
  obtain ⟨c0, c1, c2, c3, c4, c5, -⟩ := vfacts6 (heap_alloc_new W (txo x.t x.S1 x.S2 30))
  have hb2 := below_on hb (below1 W (txo x.t x.S1 x.S2 30))
  exact ⟨_, _, ⟨c0, c1, c2, c3, c4, c5⟩, hx.1.same (Same.below hb2), hx.2.1.same (Same.below hb2)⟩

/-- A twin in a world. -/
structure Tn (B : Nat) (W : World) (tb c : Nat) (zs : List Tx2) (ts : List Txd) : Prop where
  hz : zs.map Tx2.t = ts
  hc : ts.length + 5 ≤ c
  hB : B ≤ tb
  bk : ∃ cur, W.heap[tb]? = some (.cells cur 30 (0, 0))
  at' : ∀ (j : Nat) (z : Tx2), (zs ++ tMarks 5)[j]? = some z → TxC W tb (j * 6) z.t z.S1 z.S2
  zl : ∀ z ∈ zs, ZL B W.heap.size W z

theorem Tn.below {B : Nat} {W W' : World} {tb c : Nat} {zs : List Tx2} {ts : List Txd} (h : Tn B W tb c zs ts) (hb : Below W.heap.size W W') : Tn B W' tb c zs ts := by
  obtain ⟨cur, hc⟩ := h.bk
  have hs := hb.block _ (lt_of hc)
  exact ⟨h.hz, h.hc, h.hB, ⟨cur, hs.trans hc⟩, fun j z hz => (h.at' j z hz).same hs, fun z hz => (h.zl z hz).keep hb.size (Kept.ofBelow hb) (fun _ _ _ _ _ _ _ h => h)⟩

theorem Tn.get {B : Nat} {W : World} {tb c : Nat} {zs : List Tx2} {ts : List Txd} (h : Tn B W tb c zs ts) {j : Nat} {t : Txd} (ht : ts[j]? = some t) : ∃ z, z ∈ zs ∧ z.t = t ∧ TxC W tb (j * 6) t z.S1 z.S2 := by
  rw [← h.hz, List.getElem?_map] at ht
  cases hy : zs[j]? with
  | none => rw [hy] at ht; cases ht
  | some z =>
    rw [hy] at ht
    injection ht with ht
    subst ht
    refine ⟨z, List.mem_of_getElem? hy, rfl, h.at' j z ?_⟩
    rw [List.getElem?_append_left (List.getElem?_eq_some_iff.1 hy).1]
    exact hy

theorem Tn.ts {B : Nat} {W : World} {tb c : Nat} {zs : List Tx2} {ts : List Txd} (h : Tn B W tb c zs ts) : TsAt 0 W (.slice (some ⟨tb, 0, none⟩) ts.length c) ts := by
  have := h.hc
  refine ⟨_, _, rfl, by omega, fun _ => ⟨tb, 0, rfl, Nat.zero_le _, fun j t ht => ?_⟩⟩
  obtain ⟨z, hz, rfl, hc⟩ := h.get ht
  rw [Nat.zero_add]
  exact ⟨_, _, hc, (h.zl z hz).cd.mono (Nat.zero_le _), (h.zl z hz).vs.mono (Nat.zero_le _)⟩

/-- Another transaction stands in it. -/
theorem Tn.set {w W : World} {B tb c : Nat} {zs : List Tx2} {ts : List Txd} (h : Tn B W tb c zs ts) (hb : Below w.heap.size w W) (hB : w.heap.size ≤ B) {x : Tx2} (hx : Tx2Ok w x) {i : Nat} (hi : i < ts.length) :
    TsAt 0 (put6o W tb (i * 6) (.int .i64 x.t.k) (.string x.t.pn) (.int .i64 x.t.pa) x.S1 (.string x.t.nm) x.S2) (.slice (some ⟨tb, 0, none⟩) ts.length c) (ts.set i x.t) ∧ Kept (fun k => k = tb) W (put6o W tb (i * 6) (.int .i64 x.t.k) (.string x.t.pn) (.int .i64 x.t.pa) x.S1 (.string x.t.nm) x.S2) := by
  have hk := kept6o W tb (i * 6) (.int .i64 x.t.k) (.string x.t.pn) (.int .i64 x.t.pa) x.S1 (.string x.t.nm) x.S2
  have hc := h.hc
  have hBt := h.hB
  refine ⟨⟨_, _, by rw [List.length_set], by rw [List.length_set]; omega, fun _ => ⟨tb, 0, rfl, Nat.zero_le _, fun j t ht => ?_⟩⟩, hk⟩
  rw [Nat.zero_add]
  have hb2 : Below w.heap.size w (put6o W tb (i * 6) (.int .i64 x.t.k) (.string x.t.pn) (.int .i64 x.t.pa) x.S1 (.string x.t.nm) x.S2) := hb.trans (hk.below hb.size (fun k h1 h2 => by omega))
  by_cases hji : j = i
  · subst hji
    rw [List.getElem?_set_self hi] at ht
    injection ht with ht
    subst ht
    obtain ⟨u, hu⟩ : ∃ u, ts[j]? = some u := ⟨_, List.getElem?_eq_getElem hi⟩
    obtain ⟨z, hz, _, hcz⟩ := h.get hu
    exact ⟨_, _, put6_at hcz x.t x.S1 x.S2, hx.1.same (Same.below hb2), hx.2.1.same (Same.below hb2)⟩
  · rw [List.getElem?_set_ne (fun e => hji e.symm)] at ht
    obtain ⟨z, hz, rfl, hcz⟩ := h.get ht
    have hzl := (h.zl z hz).keep (C' := W.heap.size) (Nat.le_refl _) hk (fun g cur ty _ _ h2 h3 e => by
      obtain ⟨cu, hcu⟩ := h.bk
      rw [e, hcu] at h2
      simp at h2
      exact h3 h2.2.symm)
    exact ⟨_, _, hcz.moved (fun m hm => put6_off _ _ _ _ _ _ (by omega)), hzl.cd.mono (Nat.zero_le _), hzl.vs.mono (Nat.zero_le _)⟩

theorem set_all {P : Txd → Prop} {ts : List Txd} {i : Nat} {x : Txd} (h : ∀ t ∈ ts, P t) (hx : P x) : ∀ t ∈ ts.set i x, P t := by
  intro t ht
  rcases List.mem_or_eq_of_mem_set ht with h1 | h1
  · exact h t h1
  · rw [h1]; exact hx

theorem sma_L {ts : List Txd} (h : Sma ts) : ∀ t ∈ ts, TxL t := fun t ht => ⟨by have := (h.2 t ht).2; omega, by have := (h.2 t ht).1; omega⟩

set_option maxRecDepth 100000 in
set_option maxHeartbeats 4000000 in
theorem back_long (f : Int) (S : Value) (ys : List Tx2) (x : Tx2) (i fi : Int) (w : World) (h : BatR w S ys) (hx : Tx2Ok w x) (hs : ¬ (Sma (ys.map Tx2.t) ∧ Sma [x.t])) :
    Calls Try.prog 3 #[.agg #[.int .i64 f, S], txv x.t x.S1 x.S2, .int .i64 i, .int .i64 fi] w fun e w' => e = .returned (.bool true) ∧ Below w.heap.size w w' := by
  have H0 := hid (bx_start w f S x)
  have HTS := hid h.ts
  have HL1 := hid (fun W (hb : Below w.heap.size w W) => long_any 0 f S (ys.map Tx2.t) W (h.ts.below hb))
  have HL2 := hid (fun W (hb : Below w.heap.size w W) => long_any 0 0 _ [x.t] _ (one_ts hx hb))
  unfold LgP at HL1 HL2
  obtain ⟨ao, cap, rfl, -⟩ := h.1.shape
  obtain ⟨t, a1, c1, a2, c2⟩ := x
  dsimp only [Tx2.S1, Tx2.S2] at *
  clear h hx
  by_cases s1 : Sma (ys.map Tx2.t)
  · have s2 : ¬ Sma [t] := fun h => hs ⟨s1, h⟩
    rw [decide_eq_true s1] at HL1
    rw [decide_eq_false s2] at HL2
    clear hs s1 s2
    go_enter Try.func3, Try.ntmps3
    go_wp2_with (go_at_call 6; first
      | ((with_reducible show Calls _ _ _ (World.alloc (World.alloc w _) _) _)
         refine (HL1.out _ H0.out.hb).mono ?_
         rintro e w1 ⟨rfl, hb1⟩
         have H1 := hid (H0.out.below hb1)
         obtain ⟨q0, q1, q2, q3, q4, q5, -⟩ := vfacts6 H1.out.r5
         clear hb1)
      | (refine (HL2.out _ H1.out.hb).mono ?_
         rintro e w2 ⟨rfl, hb2⟩
         have H2 := hid (below_on H1.out.hb (below_on (below1 w1 _) hb2))
         clear hb2))
    go_ret
    exact ⟨rfl, H2.out⟩
  · rw [decide_eq_false s1] at HL1
    clear hs s1
    go_enter Try.func3, Try.ntmps3
    go_wp2_with (go_at_call 6
                 refine (HL1.out _ H0.out.hb).mono ?_
                 rintro e w1 ⟨rfl, hb1⟩
                 have H1 := hid (H0.out.below hb1)
                 clear hb1)
    go_ret
    exact ⟨rfl, H1.out.hb⟩

end Go.Proofs.Ytdnlfacfleemeaa
