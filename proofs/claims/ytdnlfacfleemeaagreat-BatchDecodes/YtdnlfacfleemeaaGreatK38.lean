import Derived.Test.YtdnlfacfleemeaaGreatK29
import Derived.Test.YtdnlfacfleemeaaGreatK37
namespace Go.Proofs.YtdnlfacfleemeaaGreat
open Go.RowKit Go.Lib

/-- The law with the twin. -/
structure Bc4 (w W : World) (f : Int) (S : Value) (x : Tx2) (B tb c : Nat) (zs : List Tx2) (ts : List Txd) (q : Nat) : Prop where
  bx : Bx w W f S x
  tn : Tn B W tb c zs ts
  rq : W.heap[q]? = some (bo f (.slice (some ⟨tb, 0, none⟩) ts.length c))
  lB : w.heap.size + 1 < B
  lt : tb < q

theorem Bc4.below {w W W' : World} {f : Int} {S : Value} {x : Tx2} {B tb c : Nat} {zs : List Tx2} {ts : List Txd} {q : Nat} (h : Bc4 w W f S x B tb c zs ts q) (hb : Below W.heap.size W W') : Bc4 w W' f S x B tb c zs ts q :=
  ⟨h.bx.below hb, h.tn.below hb, blk_of hb h.rq (lt_of h.rq), h.lB, h.lt⟩

theorem bc4_start {w w6 w7 : World} {f : Int} {S : Value} {x : Tx2} {tb c : Nat} {zs : List Tx2} {ts : List Txd} {cur : Array Value} (h6 : Bx w w6 f S x) (hz : zs.map Tx2.t = ts) (hc : ts.length + 5 ≤ c) (hB : w6.heap.size ≤ tb) (hblk : w7.heap[tb]? = some (.cells cur 30 (0, 0)))
    (hat : ∀ (j : Nat) (z : Tx2), (zs ++ tMarks 5)[j]? = some z → TxC w7 tb (j * 6) z.t z.S1 z.S2) (hzl : ∀ z ∈ zs, ZL w6.heap.size w7.heap.size w7 z) (hb7 : Below w6.heap.size w6 w7) :
    Bc4 w (w7.alloc (bo f (.slice (some ⟨tb, 0, none⟩) ts.length c))) f S x w6.heap.size tb c zs ts w7.heap.size := by
  have ha := below1 w7 (bo f (.slice (some ⟨tb, 0, none⟩) ts.length c))
  have hb := below_on hb7 ha
  exact ⟨h6.below hb, (Tn.mk hz hc hB ⟨cur, hblk⟩ hat hzl).below ha, heap_alloc_new w7 _, lt_of h6.r5, lt_of hblk⟩

/-- With another transaction in it. -/
structure Bc5 (w W : World) (f : Int) (q : Nat) (S' : Value) (ts : List Txd) : Prop where
  hb : Below w.heap.size w W
  st : TsAt 0 W S' ts
  rq : W.heap[q]? = some (bo f S')

theorem Bc5.below {w W W' : World} {f : Int} {q : Nat} {S' : Value} {ts : List Txd} (h : Bc5 w W f q S' ts) (hb : Below W.heap.size W W') : Bc5 w W' f q S' ts :=
  ⟨below_on h.hb hb, h.st.below hb, blk_of hb h.rq (lt_of h.rq)⟩

theorem Bc4.set {w W : World} {f : Int} {S : Value} {x : Tx2} {B tb c : Nat} {zs : List Tx2} {ts : List Txd} {q : Nat} (h : Bc4 w W f S x B tb c zs ts q) (hx : Tx2Ok w x) {i : Nat} (hi : i < ts.length) :
    Bc5 w (put6o W tb (i * 6) (.int .i64 x.t.k) (.string x.t.pn) (.int .i64 x.t.pa) x.S1 (.string x.t.nm) x.S2) f q (.slice (some ⟨tb, 0, none⟩) ts.length c) (ts.set i x.t) := by
  have hlB := h.lB
  have hlt := h.lt
  have hB := h.tn.hB
  obtain ⟨h1, hk⟩ := h.tn.set h.bx.hb (by omega) hx hi
  exact ⟨h.bx.hb.trans (hk.below h.bx.hb.size (fun k h1 h2 => by omega)), h1, (hk.block _ (lt_of h.rq) (by omega)).trans h.rq⟩

set_option maxRecDepth 100000 in
set_option maxHeartbeats 32000000 in
theorem checks_ok (f : Int) (S : Value) (ys : List Tx2) (x : Tx2) (i : Int) (w : World) (h : BatR w S ys) (hx : Tx2Ok w x) (hs1 : Sma (ys.map Tx2.t)) (hs2 : Sma [x.t]) :
    Calls Tryz.prog 3 #[.agg #[.int .i64 f, S], txv x.t x.S1 x.S2, .int .i64 i] w fun e w' => e = .returned (.bool true) ∧ Below w.heap.size w w' := by
  have H0 := hid (bx_start w f S x)
  have HB := hid h
  have HTS := hid h.ts
  have HX := hid hx
  have HSA := hid hs1
  have HSX := hid hs2
  have hl3 : ys.length ≤ 300 := by have := hs1.1; rwa [List.length_map] at this
  have HL1 := hid (fun W (hb : Below w.heap.size w W) => long_any 0 f S (ys.map Tx2.t) W (HTS.out.below hb))
  have HL2 := hid (fun W (hb : Below w.heap.size w W) => long_any 0 0 _ [x.t] _ (one_ts HX.out hb))
  unfold LgP at HL1 HL2
  rw [decide_eq_true hs1] at HL1
  rw [decide_eq_true hs2] at HL2
  have HD := hid (fun W (hb : Below w.heap.size w W) => rbcheck_any 0 f S (ys.map Tx2.t) W (HTS.out.below hb) (sma_L HSA.out) (by rw [List.length_map]; omega))
  have HTW := hid (fun W (hb : Below w.heap.size w W) => twin_any f S ys W (HB.out.below hb) HSA.out)
  obtain ⟨ao, cap, rfl, -⟩ := h.1.shape
  obtain ⟨ts, hts⟩ : ∃ ts, ts = ys.map Tx2.t := ⟨_, rfl⟩
  have hly : ys.length = ts.length := by rw [hts, List.length_map]
  rw [← hts] at HSA HTS HTW HD
  rw [hly] at HTS HL1 HTW H0 hl3 HD ⊢
  have HC := hid (fun S W (h : TsAt 0 W S ts) => bcheck_any 0 f S ts W h (sma_L HSA.out) (by omega))
  have HST := hid (fun B tb c zs W (h : Tn B W tb c zs ts) (hb : Below w.heap.size w W) => stands_any B f tb c zs ts _ W h (HTS.out.below hb) HSA.out)
  obtain ⟨t, a1, c1, a2, c2⟩ := x
  dsimp only [Tx2.S1, Tx2.S2] at *
  clear h hx hs1 hs2 HB hts hly
  generalize batChk f ts = E at HC HD
  go_enter Tryz.func3, Tryz.ntmps3
  go_upto_region 4 with (first
    | (go_at_call 6
       first
       | ((with_reducible show Calls _ _ _ (World.alloc (World.alloc w _) _) _)
          refine (HL1.out _ H0.out.hb).mono ?_
          rintro e w1 ⟨rfl, hb1⟩
          have H1 := hid (H0.out.below hb1)
          obtain ⟨q0, q1, q2, q3, q4, q5, -⟩ := vfacts6 H1.out.r5
          clear hb1)
       | (refine (HL2.out _ H1.out.hb).mono ?_
          rintro e w2 ⟨rfl, hb2⟩
          have H2 := hid (H1.out.below (below_on (below1 w1 _) hb2))
          obtain ⟨p0, p1, -⟩ := vfacts2 H2.out.r4
          clear hb2))
    | (go_at_call 7
       refine (HTW.out _ H2.out.hb).mono ?_
       rintro e w7 ⟨zs, tb, c, cur, rfl, hz7, hc7, hB7, hk7, hat7, hzl7, hb7⟩
       have H8 := hid (bc4_start H2.out hz7 hc7 hB7 hk7 hat7 hzl7 hb7)
       clear hz7 hc7 hB7 hk7 hat7 hzl7 hb7))
  clear H1 H0 HTW HL1 HL2 q0 q1 q2 q3 q4 q5 p0 p1
  obtain ⟨q, hq⟩ : ∃ q, q = w7.heap.size := ⟨_, rfl⟩
  obtain ⟨B, hBq⟩ : ∃ B, B = w2.heap.size := ⟨_, rfl⟩
  rw [← hq, ← hBq] at H8
  rw [← hq]
  refine cutG (fun W => Bc4 w W f (.slice ao ts.length cap) ⟨t, a1, c1, a2, c2⟩ B tb c zs ts q) H8.out ?_
  intro W9 H9
  have H9 := hid H9
  clear H8 hq hBq H2 cur
  obtain ⟨p0, p1, -⟩ := vfacts2 H9.out.bx.r4
  obtain ⟨r0, r1, -⟩ := vfacts2 H9.out.rq
  go_region_held (fun wx => wx.cell? ⟨q, 0, none⟩ = some (.int .i64 f) ∧ wx.cell? ⟨q, 1, none⟩ = some (.slice (some ⟨tb, 0, none⟩) ts.length c) ∧ wx.cell? ⟨w.heap.size, 0, none⟩ = some (.int .i64 f) ∧ wx.cell? ⟨w.heap.size, 1, none⟩ = some (.slice ao ts.length cap)) (go_keep) (first
    | (go_at_call 8
       refine (HC.out _ W9.drew (H9.out.tn.ts.below (below_drew W9))).mono ?_
       rintro e w10 ⟨rfl, hb10⟩
       have H10 := hid (H9.out.below (below_on (below_drew W9) hb10))
       obtain ⟨p0, p1, -⟩ := vfacts2 H10.out.bx.r4
       obtain ⟨r0, r1, -⟩ := vfacts2 H10.out.rq
       clear hb10)
    | (go_at_call 9
       refine (HD.out w10 H10.out.bx.hb).mono ?_
       rintro e w11 ⟨rfl, hb11⟩
       have H11 := hid (H10.out.below hb11)
       obtain ⟨p0, p1, -⟩ := vfacts2 H11.out.bx.r4
       obtain ⟨r0, r1, -⟩ := vfacts2 H11.out.rq
       clear hb11)
    | (go_at_call 10
       refine (HST.out _ _ _ _ w11 H11.out.tn H11.out.bx.hb).mono ?_
       rintro e w12 ⟨rfl, hb12⟩
       have H12 := hid (H11.out.below hb12)
       obtain ⟨p0, p1, -⟩ := vfacts2 H12.out.bx.r4
       obtain ⟨r0, r1, -⟩ := vfacts2 H12.out.rq
       clear hb12))
  clear HC HD HST
  by_cases hnil : ts = []
  · subst hnil
    go_wp2_with (first
      | (go_at_call 11
         refine (known_any _).mono ?_
         rintro e w13 ⟨rfl, hb13⟩
         have H13 := hid (below_on H12.out.bx.hb hb13)
         clear hb13))
    go_ret
    exact ⟨rfl, H13.out⟩
  have hpos : 0 < ts.length := List.length_pos_iff.2 hnil
  have hpos' : (0 : Int) < (ts.length : Int) := by omega
  have hz0 : ((ts.length : Int) == 0) = false := by simp; exact hnil
  have htb : -(ts.length : Int) < i.tmod ts.length ∧ i.tmod ts.length < ts.length := by
    have h1 : (i.tmod ts.length).natAbs < ts.length := by
      rw [Int.natAbs_tmod]
      exact Nat.mod_lt _ hpos
    omega
  have HTB := hid htb
  clear htb hnil
  by_cases hneg : i.tmod ts.length < 0
  · obtain ⟨cN, hwr, hcN⟩ : ∃ c : Nat, wrap64 (i.tmod ts.length + ts.length) = c ∧ c < ts.length := by
      have := HTB.out
      refine ⟨(i.tmod ts.length + ts.length).toNat, ?_, by omega⟩
      unfold wrap64
      omega
    have HWR := hid hwr
    clear hwr
    go_upto_region 11 with fail
    rw [HWR.out]
    obtain ⟨u, hu⟩ : ∃ u, ts[cN]? = some u := ⟨_, List.getElem?_eq_getElem hcN⟩
    obtain ⟨z, hz, _, hcz⟩ := H12.out.tn.get hu
    obtain ⟨d0, d1, d2, d3, d4, d5⟩ := hcz
    obtain ⟨s0, s1, s2, s3, s4, s5, -⟩ := vfacts6 H12.out.bx.r5
    have vz : ∀ o, w12.frozen? ⟨tb, o, none⟩ = false := fun o => by obtain ⟨cs, hcs⟩ := H12.out.tn.bk; simp [World.frozen?, hcs]
    have hcN' : (cN : Int) < (ts.length : Int) := by omega
    have hccN : (ts.length : Int) ≤ (c : Int) := by have := H12.out.tn.hc; omega
    clear hu hz
    go_upto_region 12 with fail
    refine cutG (fun W => Bc5 w W f q (.slice (some ⟨tb, 0, none⟩) ts.length c) (ts.set cN t)) (H12.out.set HX.out hcN) ?_
    intro W13 H13
    have H13 := hid H13
    have HC2 := hid (fun S W (h : TsAt 0 W S (ts.set cN t)) => bcheck_any 0 f S (ts.set cN t) W h (set_all (sma_L HSA.out) (sma_L HSX.out t (by simp))) (by rw [List.length_set]; omega))
    have HD2 := hid (fun S W (h : TsAt 0 W S (ts.set cN t)) => rbcheck_any 0 f S (ts.set cN t) W h (set_all (sma_L HSA.out) (sma_L HSX.out t (by simp))) (by rw [List.length_set]; omega))
    generalize batChk f (ts.set cN t) = E2 at HC2 HD2
    clear d0 d1 d2 d3 d4 d5 r0 r1 s0 s1 s2 s3 s4 s5 vz p0 p1
    obtain ⟨r0, r1, -⟩ := vfacts2 H13.out.rq
    go_region_held (fun wx => wx.cell? ⟨q, 0, none⟩ = some (.int .i64 f) ∧ wx.cell? ⟨q, 1, none⟩ = some (.slice (some ⟨tb, 0, none⟩) ts.length c)) (go_keep) (first
      | (go_at_call 8
         refine (HC2.out _ W13.drew (H13.out.st.below (below_drew W13))).mono ?_
         rintro e w14 ⟨rfl, hb14⟩
         have H14 := hid (H13.out.below (below_on (below_drew W13) hb14))
         obtain ⟨r0, r1, -⟩ := vfacts2 H14.out.rq
         clear hb14)
      | (go_at_call 9
         refine (HD2.out _ w14 H14.out.st).mono ?_
         rintro e w15 ⟨rfl, hb15⟩
         have H15 := hid (H14.out.below hb15)
         obtain ⟨r0, r1, -⟩ := vfacts2 H15.out.rq
         clear hb15)
      | (go_at_call 11
         refine (known_any w15).mono ?_
         rintro e w16 ⟨rfl, hb16⟩
         have H16 := hid (H15.out.below hb16)
         obtain ⟨r0, r1, -⟩ := vfacts2 H16.out.rq
         clear hb16))
    go_wp2
    go_ret
    exact ⟨rfl, H16.out.hb⟩
  · obtain ⟨cN, hwr, hcN⟩ : ∃ c : Nat, i.tmod ts.length = c ∧ c < ts.length := by
      have := HTB.out
      exact ⟨(i.tmod ts.length).toNat, by omega, by omega⟩
    have HWR := hid hwr
    clear hwr
    go_upto_region 11 with fail
    rw [HWR.out]
    clear hneg
    obtain ⟨u, hu⟩ : ∃ u, ts[cN]? = some u := ⟨_, List.getElem?_eq_getElem hcN⟩
    obtain ⟨z, hz, _, hcz⟩ := H12.out.tn.get hu
    obtain ⟨d0, d1, d2, d3, d4, d5⟩ := hcz
    obtain ⟨s0, s1, s2, s3, s4, s5, -⟩ := vfacts6 H12.out.bx.r5
    have vz : ∀ o, w12.frozen? ⟨tb, o, none⟩ = false := fun o => by obtain ⟨cs, hcs⟩ := H12.out.tn.bk; simp [World.frozen?, hcs]
    have hcN' : (cN : Int) < (ts.length : Int) := by omega
    have hccN : (ts.length : Int) ≤ (c : Int) := by have := H12.out.tn.hc; omega
    clear hu hz
    go_upto_region 12 with fail
    refine cutG (fun W => Bc5 w W f q (.slice (some ⟨tb, 0, none⟩) ts.length c) (ts.set cN t)) (H12.out.set HX.out hcN) ?_
    intro W13 H13
    have H13 := hid H13
    have HC2 := hid (fun S W (h : TsAt 0 W S (ts.set cN t)) => bcheck_any 0 f S (ts.set cN t) W h (set_all (sma_L HSA.out) (sma_L HSX.out t (by simp))) (by rw [List.length_set]; omega))
    have HD2 := hid (fun S W (h : TsAt 0 W S (ts.set cN t)) => rbcheck_any 0 f S (ts.set cN t) W h (set_all (sma_L HSA.out) (sma_L HSX.out t (by simp))) (by rw [List.length_set]; omega))
    generalize batChk f (ts.set cN t) = E2 at HC2 HD2
    clear d0 d1 d2 d3 d4 d5 r0 r1 s0 s1 s2 s3 s4 s5 vz p0 p1
    obtain ⟨r0, r1, -⟩ := vfacts2 H13.out.rq
    go_region_held (fun wx => wx.cell? ⟨q, 0, none⟩ = some (.int .i64 f) ∧ wx.cell? ⟨q, 1, none⟩ = some (.slice (some ⟨tb, 0, none⟩) ts.length c)) (go_keep) (first
      | (go_at_call 8
         refine (HC2.out _ W13.drew (H13.out.st.below (below_drew W13))).mono ?_
         rintro e w14 ⟨rfl, hb14⟩
         have H14 := hid (H13.out.below (below_on (below_drew W13) hb14))
         obtain ⟨r0, r1, -⟩ := vfacts2 H14.out.rq
         clear hb14)
      | (go_at_call 9
         refine (HD2.out _ w14 H14.out.st).mono ?_
         rintro e w15 ⟨rfl, hb15⟩
         have H15 := hid (H14.out.below hb15)
         obtain ⟨r0, r1, -⟩ := vfacts2 H15.out.rq
         clear hb15)
      | (go_at_call 11
         refine (known_any w15).mono ?_
         rintro e w16 ⟨rfl, hb16⟩
         have H16 := hid (H15.out.below hb16)
         obtain ⟨r0, r1, -⟩ := vfacts2 H16.out.rq
         clear hb16))
    go_wp2
    go_ret
    exact ⟨rfl, H16.out.hb⟩

set_option maxRecDepth 100000 in
set_option maxHeartbeats 4000000 in
theorem checks_long (f : Int) (S : Value) (ys : List Tx2) (x : Tx2) (i : Int) (w : World) (h : BatR w S ys) (hx : Tx2Ok w x) (hs : ¬ (Sma (ys.map Tx2.t) ∧ Sma [x.t])) :
    Calls Tryz.prog 3 #[.agg #[.int .i64 f, S], txv x.t x.S1 x.S2, .int .i64 i] w fun e w' => e = .returned (.bool true) ∧ Below w.heap.size w w' := by
  have H0 := hid (bx_start w f S x)
  have HTS := hid h.ts
  have HL1 := hid (fun W (hb : Below w.heap.size w W) => long_any 0 f S (ys.map Tx2.t) W (h.ts.below hb))
  have HL2 := hid (fun W (hb : Below w.heap.size w W) => long_any 0 0 _ [x.t] _ (one_ts hx hb))
  unfold LgP at HL1 HL2
  obtain ⟨ao, cap, rfl, -⟩ := h.1.shape
  obtain ⟨t, a1, c1, a2, c2⟩ := x
  dsimp only [Tx2.S1, Tx2.S2] at *
  clear h hx
  by_cases s1 : Sma (ys.map Tx2.t)
  · have s2 : ¬ Sma [t] := fun h => hs ⟨s1, h⟩
    rw [decide_eq_true s1] at HL1
    rw [decide_eq_false s2] at HL2
    clear hs s1 s2
    go_enter Tryz.func3, Tryz.ntmps3
    go_wp2_with (go_at_call 6; first
      | ((with_reducible show Calls _ _ _ (World.alloc (World.alloc w _) _) _)
         refine (HL1.out _ H0.out.hb).mono ?_
         rintro e w1 ⟨rfl, hb1⟩
         have H1 := hid (H0.out.below hb1)
         obtain ⟨q0, q1, q2, q3, q4, q5, -⟩ := vfacts6 H1.out.r5
         clear hb1)
      | (refine (HL2.out _ H1.out.hb).mono ?_
         rintro e w2 ⟨rfl, hb2⟩
         have H2 := hid (below_on H1.out.hb (below_on (below1 w1 _) hb2))
         clear hb2))
    go_ret
    exact ⟨rfl, H2.out⟩
  · rw [decide_eq_false s1] at HL1
    clear hs s1
    go_enter Tryz.func3, Tryz.ntmps3
    go_wp2_with (go_at_call 6
                 refine (HL1.out _ H0.out.hb).mono ?_
                 rintro e w1 ⟨rfl, hb1⟩
                 have H1 := hid (H0.out.below hb1)
                 clear hb1)
    go_ret
    exact ⟨rfl, H1.out.hb⟩

end Go.Proofs.YtdnlfacfleemeaaGreat

namespace Go.Proofs.YtdnlfacfleemeaaGreat
open Go.RowKit Go.WideShapes Go.ChangeAt Go.ChangeShapes

def Tx2R (W : World) (y : Tx2) : Prop := Rf W 8 y.S1 y.t.xs.length (y.t.xs.flatMap Ins.cells) ∧ Rf W 3 y.S2 y.t.vs.length (y.t.vs.flatMap Vd.cells) ∧ TxOk y.t

set_option maxRecDepth 100000 in
theorem txR_of_trod {H : Type} {enc : TypeId × Value → H} {W : World} {base : Nat} {held : Bool} {fuel : Nat} {cs : List Value} {x : DataW H × List MemPlace}
    (h : DataW.trod enc Tryz.prog W base (fun _ => true) held fuel 30 cs = some x) : ∃ y : Tx2, Tx2R W y ∧ cs = y.cells := by
  obtain ⟨xs, n, _, rfl, hl, hlen, hf⟩ := DataW.trod_struct Tryz.underlying30 h
  rw [Tryz.cells30] at hl
  match cs, hl, xs, hlen with
  | [c0, c1, c2, c3, c4, c5], _, [y0, y1, y2, y3], _ =>
    have f0 : DataW.trod enc Tryz.prog W base (fun _ => true) held n 3 (([c0, c1, c2, c3, c4, c5].drop 0).take (Tryz.prog.cellsOf 3)) = some y0 := hf 0 _ rfl
    have f1 : DataW.trod enc Tryz.prog W base (fun _ => true) held n 27 (([c0, c1, c2, c3, c4, c5].drop 1).take (Tryz.prog.cellsOf 27)) = some y1 := hf 1 _ rfl
    have f2 : DataW.trod enc Tryz.prog W base (fun _ => true) held n 9 (([c0, c1, c2, c3, c4, c5].drop 4).take (Tryz.prog.cellsOf 9)) = some y2 := hf 2 _ rfl
    have f3 : DataW.trod enc Tryz.prog W base (fun _ => true) held n 28 (([c0, c1, c2, c3, c4, c5].drop 5).take (Tryz.prog.cellsOf 28)) = some y3 := hf 3 _ rfl
    rw [Tryz.cells3] at f0
    rw [Tryz.cells27] at f1
    rw [Tryz.cells9] at f2
    rw [Tryz.cells28] at f3
    obtain ⟨a0, e0, _, _⟩ := DataW.trod_int Tryz.underlying3 (x := y0) (by simpa using f0)
    obtain ⟨s2, e2, _, _⟩ := DataW.trod_string Tryz.underlying9 (x := y2) (by simpa using f2)
    obtain ⟨S2, vs, e3, hR3, hO3⟩ := rf_of_trod Vd.cells VdOk 3 vd_cells vd_one Tryz.underlying28 Tryz.cells51 (fun _ _ _ h => vd_of_trod h) f3
    obtain ⟨zs, n1, _, _, hl1, hlen1, hf1⟩ := DataW.trod_struct Tryz.underlying27 f1
    match zs, hlen1 with
    | [z0, z1, z2], _ =>
      have g0 : DataW.trod enc Tryz.prog W base (fun _ => true) held n1 9 (([c1, c2, c3].drop 0).take (Tryz.prog.cellsOf 9)) = some z0 := hf1 0 _ rfl
      have g1 : DataW.trod enc Tryz.prog W base (fun _ => true) held n1 3 (([c1, c2, c3].drop 1).take (Tryz.prog.cellsOf 3)) = some z1 := hf1 1 _ rfl
      have g2 : DataW.trod enc Tryz.prog W base (fun _ => true) held n1 25 (([c1, c2, c3].drop 2).take (Tryz.prog.cellsOf 25)) = some z2 := hf1 2 _ rfl
      rw [Tryz.cells9] at g0
      rw [Tryz.cells3] at g1
      rw [Tryz.cells25] at g2
      obtain ⟨pn, e10, _, _⟩ := DataW.trod_string Tryz.underlying9 (x := z0) (by simpa using g0)
      obtain ⟨pa, e11, _, _⟩ := DataW.trod_int Tryz.underlying3 (x := z1) (by simpa using g1)
      obtain ⟨S1, ys, e12, hR1, hO1⟩ := rf_of_trod Ins.cells InsOk 8 ins_cells ins_one Tryz.underlying25 Tryz.cells53 (fun _ _ _ h => ins_of_trod h) g2
      simp at e0 e2 e3 e10 e11 e12
      subst e0 e2 e3 e10 e11 e12
      obtain ⟨b1, d1, rfl, _⟩ := hR1.shape
      obtain ⟨b2, d2, rfl, _⟩ := hR3.shape
      exact ⟨⟨⟨a0, pn, pa, ys, s2, vs⟩, b1, d1, b2, d2⟩, ⟨hR1, hR3, ⟨hO1, hO3⟩⟩, rfl⟩

set_option maxRecDepth 100000 in
/-- A batch as an argument. -/
theorem batR_of_trod {H : Type} {enc : TypeId × Value → H} {W : World} {base b2 : Nat} {held : Bool} {v : Value} {d : DataW H} {p : List MemPlace} (hv : Value.okWide Tryz.prog W .any b2 24 v)
    (h : DataW.Trod enc Tryz.prog W base (fun _ => true) held 24 v d p) : ∃ (f : Int) (S : Value) (ys : List Tx2), v = .agg #[.int .i64 f, S] ∧ BatR W S ys := by
  obtain ⟨⟨cs⟩, rfl, _⟩ := okWide_struct Tryz.underlying24 hv
  obtain ⟨fuel, hf0⟩ := h
  have hf0 : DataW.trod enc Tryz.prog W base (fun _ => true) held fuel 24 cs = some (d, p) := by simpa [Value.cells] using hf0
  obtain ⟨xs, n, _, hd, hl, hlen, hf⟩ := DataW.trod_struct Tryz.underlying24 hf0
  rw [Tryz.cells24] at hl
  match cs, hl, xs, hlen with
  | [c0, c1], _, [y0, y1], _ =>
    have f0 : DataW.trod enc Tryz.prog W base (fun _ => true) held n 3 (([c0, c1].drop 0).take (Tryz.prog.cellsOf 3)) = some y0 := hf 0 _ rfl
    have f1 : DataW.trod enc Tryz.prog W base (fun _ => true) held n 22 (([c0, c1].drop 1).take (Tryz.prog.cellsOf 22)) = some y1 := hf 1 _ rfl
    rw [Tryz.cells3] at f0
    rw [Tryz.cells22] at f1
    obtain ⟨a0, e0, _, _⟩ := DataW.trod_int Tryz.underlying3 (x := y0) (by simpa using f0)
    obtain ⟨S, ys, e1, hR, hO⟩ := rf_of_trod Tx2.cells (Tx2R W) 6 tx2_cells tx2_one Tryz.underlying22 Tryz.cells30 (fun _ _ _ h => txR_of_trod h) f1
    simp at e0 e1
    subst e0 e1
    exact ⟨a0, c1, ys, rfl, hR, hO⟩


theorem checks_any (f : Int) (S : Value) (ys : List Tx2) (x : Tx2) (i : Int) (w : World) (h : BatR w S ys) (hx : Tx2Ok w x) :
    Calls Tryz.prog 3 #[.agg #[.int .i64 f, S], txv x.t x.S1 x.S2, .int .i64 i] w fun e w' => e = .returned (.bool true) ∧ Below w.heap.size w w' := by
  by_cases hs : Sma (ys.map Tx2.t) ∧ Sma [x.t]
  · exact checks_ok f S ys x i w h hx hs.1 hs.2
  · exact checks_long f S ys x i w h hx hs

end Go.Proofs.YtdnlfacfleemeaaGreat

namespace Go.Proofs.YtdnlfacfleemeaaGreat
open Go.RowKit Go.Lib

/-- An answer of Encode: the bytes, the error. -/
def beB : Except Int (List Int) → List Int
  | .ok l => l
  | .error _ => []
def beE : Except Int (List Int) → Int
  | .ok _ => 0
  | .error E => E

def BSl (w : World) (l : List Int) (E : Int) (e : Ending) (w' : World) : Prop :=
  ∃ ao c, e = .returned (.tuple #[.slice ao l.length c, .int .i64 E]) ∧ Sl w' (.slice ao l.length c) l ∧ (∀ k, (Value.slice ao l.length c).ownBlock = some k → w.heap.size ≤ k) ∧ Below w.heap.size w w'

theorem be_len (f : Int) (ts : List Txd) : (beB (batE f ts)).length ≤ 65536 := by
  unfold batE
  split
  · split
    · rename_i h; exact h
    · simp [beB]
  · simp [beB]

theorem benc_u (B : Nat) (f : Int) (S : Value) (ts : List Txd) (w : World) (h : TsAt B w S ts) (hL : ∀ t ∈ ts, TxL t) (hl : ts.length ≤ 1000000000) (ho : ∀ t ∈ ts, TxOk t) : Calls Tryz.prog 12 #[.agg #[.int .i64 f, S]] w (BSl w (beB (batE f ts)) (beE (batE f ts))) := by
  have hbl := be_len f ts
  refine (bencode_any B f S ts w h hL hl ho).mono ?_
  unfold BEnc BSl
  cases hR : batE f ts with
  | error E =>
    rintro e w' ⟨hb, rfl⟩
    exact ⟨none, 0, rfl, (sn_nil _).1, fun k hk => by simp [Value.ownBlock] at hk, hb⟩
  | ok l =>
    rintro e w' ⟨hb, g, rfl, ho, hg⟩
    rw [hR] at hbl
    refine ⟨_, _, rfl, own_sl ho (Nat.le_trans hbl (by decide)), fun k hk => ?_, hb⟩
    simp [Value.ownBlock] at hk
    omega

theorem rbenc_u (B : Nat) (f : Int) (S : Value) (ts : List Txd) (w : World) (h : TsAt B w S ts) (hL : ∀ t ∈ ts, TxL t) (hl : ts.length ≤ 1000000000) (ho : ∀ t ∈ ts, TxOk t) : Calls Tryz.prog 13 #[.agg #[.int .i64 f, S]] w (BSl w (beB (batE f ts)) (beE (batE f ts))) := by
  refine (rbenc_any B f S ts w h hL hl ho).mono ?_
  unfold REn BSl
  cases hR : batE f ts with
  | error E =>
    rintro e w' ⟨hb, rfl⟩
    exact ⟨none, 0, rfl, (sn_nil _).1, fun k hk => by simp [Value.ownBlock] at hk, hb⟩
  | ok l =>
    rintro e w' ⟨hb, v, rfl, hs, hf⟩
    have hs2 := hs
    obtain ⟨ao, c, rfl, -⟩ := hs2
    exact ⟨_, _, rfl, hs, hf, hb⟩

theorem Bc4.new {w W : World} {f : Int} {S : Value} {x : Tx2} {B tb c : Nat} {zs : List Tx2} {ts : List Txd} {q : Nat} (h : Bc4 w W f S x B tb c zs ts q) {k : Nat} (hk : W.heap.size ≤ k) : tb < k := by
  have := lt_of h.rq
  have := h.lt
  omega

/-- The law with the twin and what both sides gave. -/
structure Bd6 (w W : World) (f : Int) (S : Value) (x : Tx2) (B tb c : Nat) (zs : List Tx2) (ts : List Txd) (q : Nat) (L M : Value) (bs : List Int) : Prop where
  bc : Bc4 w W f S x B tb c zs ts q
  sl : Sl W L bs
  sm : Sl W M bs
  fl : ∀ k, L.ownBlock = some k → tb < k
  fm : ∀ k, M.ownBlock = some k → tb < k

theorem Bd6.below {w W W' : World} {f : Int} {S : Value} {x : Tx2} {B tb c : Nat} {zs : List Tx2} {ts : List Txd} {q : Nat} {L M : Value} {bs : List Int} (h : Bd6 w W f S x B tb c zs ts q L M bs) (hb : Below W.heap.size W W') : Bd6 w W' f S x B tb c zs ts q L M bs :=
  ⟨h.bc.below hb, h.sl.below hb, h.sm.below hb, h.fl, h.fm⟩

structure Bd7 (w W : World) (f : Int) (q : Nat) (S' : Value) (ts : List Txd) (L M : Value) (bs : List Int) : Prop where
  bc : Bc5 w W f q S' ts
  sl : Sl W L bs
  sm : Sl W M bs

theorem Bd7.below {w W W' : World} {f : Int} {q : Nat} {S' : Value} {ts : List Txd} {L M : Value} {bs : List Int} (h : Bd7 w W f q S' ts L M bs) (hb : Below W.heap.size W W') : Bd7 w W' f q S' ts L M bs :=
  ⟨h.bc.below hb, h.sl.below hb, h.sm.below hb⟩

theorem Bd6.set {w W : World} {f : Int} {S : Value} {x : Tx2} {B tb c : Nat} {zs : List Tx2} {ts : List Txd} {q : Nat} {L M : Value} {bs : List Int} (h : Bd6 w W f S x B tb c zs ts q L M bs) (hx : Tx2Ok w x) {i : Nat} (hi : i < ts.length) :
    Bd7 w (put6o W tb (i * 6) (.int .i64 x.t.k) (.string x.t.pn) (.int .i64 x.t.pa) x.S1 (.string x.t.nm) x.S2) f q (.slice (some ⟨tb, 0, none⟩) ts.length c) (ts.set i x.t) L M bs :=
  ⟨h.bc.set hx hi, h.sl.kept (kept6o W tb (i * 6) _ _ _ _ _ _) (fun k hk e => by have := h.fl k hk; omega), h.sm.kept (kept6o W tb (i * 6) _ _ _ _ _ _) (fun k hk e => by have := h.fm k hk; omega)⟩

set_option maxRecDepth 100000 in
set_option maxHeartbeats 32000000 in
theorem encodes_ok (f : Int) (S : Value) (ys : List Tx2) (x : Tx2) (i : Int) (w : World) (h : BatR w S ys) (hx : Tx2Ok w x) (hs1 : Sma (ys.map Tx2.t)) (hs2 : Sma [x.t]) :
    Calls Tryz.prog 4 #[.agg #[.int .i64 f, S], txv x.t x.S1 x.S2, .int .i64 i] w fun e w' => e = .returned (.bool true) ∧ Below w.heap.size w w' := by
  have H0 := hid (bx_start w f S x)
  have HB := hid h
  have HTS := hid h.ts
  have HX := hid hx
  have HSA := hid hs1
  have HSX := hid hs2
  have hl3 : ys.length ≤ 300 := by have := hs1.1; rwa [List.length_map] at this
  have HL1 := hid (fun W (hb : Below w.heap.size w W) => long_any 0 f S (ys.map Tx2.t) W (HTS.out.below hb))
  have HL2 := hid (fun W (hb : Below w.heap.size w W) => long_any 0 0 _ [x.t] _ (one_ts HX.out hb))
  unfold LgP at HL1 HL2
  rw [decide_eq_true hs1] at HL1
  rw [decide_eq_true hs2] at HL2
  have ho : ∀ t ∈ ys.map Tx2.t, TxOk t := by
    intro t ht
    obtain ⟨y, hy, rfl⟩ := List.mem_map.1 ht
    exact (h.2 y hy).2.2
  have HO := hid ho
  have HD := hid (fun W (hb : Below w.heap.size w W) => rbenc_u 0 f S (ys.map Tx2.t) W (HTS.out.below hb) (sma_L HSA.out) (by rw [List.length_map]; omega) HO.out)
  have HTW := hid (fun W (hb : Below w.heap.size w W) => twin_any f S ys W (HB.out.below hb) HSA.out)
  obtain ⟨ao, cap, rfl, -⟩ := h.1.shape
  obtain ⟨ts, hts⟩ : ∃ ts, ts = ys.map Tx2.t := ⟨_, rfl⟩
  have hly : ys.length = ts.length := by rw [hts, List.length_map]
  rw [← hts] at HSA HTS HTW HD HO
  rw [hly] at HTS HL1 HTW H0 hl3 HD ⊢
  have HC := hid (fun S W (h : TsAt 0 W S ts) => benc_u 0 f S ts W h (sma_L HSA.out) (by omega) HO.out)
  have HST := hid (fun B tb c zs W (h : Tn B W tb c zs ts) (hb : Below w.heap.size w W) => stands_any B f tb c zs ts _ W h (HTS.out.below hb) HSA.out)
  obtain ⟨t, a1, c1, a2, c2⟩ := x
  dsimp only [Tx2.S1, Tx2.S2] at *
  have hLB := be_len f ts
  unfold BSl at HC HD
  clear h hx hs1 hs2 HB hts hly ho
  generalize beB (batE f ts) = bs at HC HD hLB
  generalize beE (batE f ts) = E at HC HD
  go_enter Tryz.func4, Tryz.ntmps4
  go_upto_region 4 with (first
    | (go_at_call 6
       first
       | ((with_reducible show Calls _ _ _ (World.alloc (World.alloc w _) _) _)
          refine (HL1.out _ H0.out.hb).mono ?_
          rintro e w1 ⟨rfl, hb1⟩
          have H1 := hid (H0.out.below hb1)
          obtain ⟨q0, q1, q2, q3, q4, q5, -⟩ := vfacts6 H1.out.r5
          clear hb1)
       | (refine (HL2.out _ H1.out.hb).mono ?_
          rintro e w2 ⟨rfl, hb2⟩
          have H2 := hid (H1.out.below (below_on (below1 w1 _) hb2))
          obtain ⟨p0, p1, -⟩ := vfacts2 H2.out.r4
          clear hb2))
    | (go_at_call 7
       refine (HTW.out _ H2.out.hb).mono ?_
       rintro e w7 ⟨zs, tb, c, cur, rfl, hz7, hc7, hB7, hk7, hat7, hzl7, hb7⟩
       have H8 := hid (bc4_start H2.out hz7 hc7 hB7 hk7 hat7 hzl7 hb7)
       clear hz7 hc7 hB7 hk7 hat7 hzl7 hb7))
  clear H1 H0 HTW HL1 HL2 q0 q1 q2 q3 q4 q5 p0 p1
  obtain ⟨q, hq⟩ : ∃ q, q = w7.heap.size := ⟨_, rfl⟩
  obtain ⟨B, hBq⟩ : ∃ B, B = w2.heap.size := ⟨_, rfl⟩
  rw [← hq, ← hBq] at H8
  rw [← hq]
  refine cutG (fun W => Bc4 w W f (.slice ao ts.length cap) ⟨t, a1, c1, a2, c2⟩ B tb c zs ts q) H8.out ?_
  intro W9 H9
  have H9 := hid H9
  clear H8 hq hBq H2 cur
  obtain ⟨p0, p1, -⟩ := vfacts2 H9.out.bx.r4
  obtain ⟨r0, r1, -⟩ := vfacts2 H9.out.rq
  go_upto_region 8 with (first
    | (go_at_call 12
       refine (HC.out _ W9 H9.out.tn.ts).mono ?_
       rintro e w10 ⟨ao10, c10, rfl, hs10, hf10, hb10⟩
       have H10 := hid (And.intro (H9.out.below hb10) (And.intro hs10 (fun k hk => H9.out.new (hf10 k hk))))
       obtain ⟨p0, p1, -⟩ := vfacts2 H10.out.1.bx.r4
       obtain ⟨r0, r1, -⟩ := vfacts2 H10.out.1.rq
       clear hb10 hs10 hf10)
    | (go_at_call 13
       refine (HD.out w10 H10.out.1.bx.hb).mono ?_
       rintro e w11 ⟨ao11, c11, rfl, hs11, hf11, hb11⟩
       have H11 : Hid (Bd6 w w11 f (.slice ao ts.length cap) ⟨t, a1, c1, a2, c2⟩ B tb c zs ts q (.slice ao10 bs.length c10) (.slice ao11 bs.length c11) bs) := hid ⟨H10.out.1.below hb11, H10.out.2.1.below hb11, hs11, H10.out.2.2, fun k hk => H10.out.1.new (hf11 k hk)⟩
       obtain ⟨p0, p1, -⟩ := vfacts2 H11.out.bc.bx.r4
       obtain ⟨r0, r1, -⟩ := vfacts2 H11.out.bc.rq
       clear hb11 hs11 hf11)
    | (go_at_call 14
       refine (bytes_same (.slice ao10 bs.length c10) (.slice ao11 bs.length c11) bs w11 H11.out.sl H11.out.sm (by omega)).mono ?_
       rintro e w12 ⟨hd12, rfl⟩
       have H12 := hid (H11.out.below hd12.below)
       obtain ⟨p0, p1, -⟩ := vfacts2 H12.out.bc.bx.r4
       obtain ⟨r0, r1, -⟩ := vfacts2 H12.out.bc.rq
       clear hd12)
    | (go_at_call 10
       refine (HST.out _ _ _ _ w12 H12.out.bc.tn H12.out.bc.bx.hb).mono ?_
       rintro e w13 ⟨rfl, hb13⟩
       have H13 := hid (H12.out.below hb13)
       obtain ⟨p0, p1, -⟩ := vfacts2 H13.out.bc.bx.r4
       obtain ⟨r0, r1, -⟩ := vfacts2 H13.out.bc.rq
       clear hb13))
  clear HC HD HST H9 H10 H11 H12
  by_cases hnil : ts = []
  · subst hnil
    go_wp2_with (first
      | (go_at_call 11
         refine (known_any _).mono ?_
         rintro e w14 ⟨rfl, hb14⟩
         have H14 := hid (below_on H13.out.bc.bx.hb hb14)
         clear hb14))
    go_ret
    exact ⟨rfl, H14.out⟩
  have hpos : 0 < ts.length := List.length_pos_iff.2 hnil
  have hpos' : (0 : Int) < (ts.length : Int) := by omega
  have hz0 : ((ts.length : Int) == 0) = false := by simp; exact hnil
  have htb : -(ts.length : Int) < i.tmod ts.length ∧ i.tmod ts.length < ts.length := by
    have h1 : (i.tmod ts.length).natAbs < ts.length := by
      rw [Int.natAbs_tmod]
      exact Nat.mod_lt _ hpos
    omega
  have HTB := hid htb
  clear htb hnil
  by_cases hneg : i.tmod ts.length < 0
  · obtain ⟨cN, hwr, hcN⟩ : ∃ c : Nat, wrap64 (i.tmod ts.length + ts.length) = c ∧ c < ts.length := by
      have := HTB.out
      refine ⟨(i.tmod ts.length + ts.length).toNat, ?_, by omega⟩
      unfold wrap64
      omega
    have HWR := hid hwr
    clear hwr
    go_upto_region 13 with fail
    rw [HWR.out]
    obtain ⟨u, hu⟩ : ∃ u, ts[cN]? = some u := ⟨_, List.getElem?_eq_getElem hcN⟩
    obtain ⟨z, hz, _, hcz⟩ := H13.out.bc.tn.get hu
    obtain ⟨d0, d1, d2, d3, d4, d5⟩ := hcz
    obtain ⟨s0, s1, s2, s3, s4, s5, -⟩ := vfacts6 H13.out.bc.bx.r5
    have vz : ∀ o, w13.frozen? ⟨tb, o, none⟩ = false := fun o => by obtain ⟨cs, hcs⟩ := H13.out.bc.tn.bk; simp [World.frozen?, hcs]
    have hcN' : (cN : Int) < (ts.length : Int) := by omega
    have hccN : (ts.length : Int) ≤ (c : Int) := by have := H13.out.bc.tn.hc; omega
    clear hu hz
    go_upto_region 14 with fail
    refine cutG (fun W => Bd7 w W f q (.slice (some ⟨tb, 0, none⟩) ts.length c) (ts.set cN t) (.slice ao10 bs.length c10) (.slice ao11 bs.length c11) bs) (H13.out.set HX.out hcN) ?_
    intro W13 H14
    have H14 := hid H14
    have HC2 := hid (fun S W (h : TsAt 0 W S (ts.set cN t)) => benc_u 0 f S (ts.set cN t) W h (set_all (sma_L HSA.out) (sma_L HSX.out t (by simp))) (by rw [List.length_set]; omega) (set_all HO.out HX.out.2.2))
    have HD2 := hid (fun S W (h : TsAt 0 W S (ts.set cN t)) => rbenc_u 0 f S (ts.set cN t) W h (set_all (sma_L HSA.out) (sma_L HSX.out t (by simp))) (by rw [List.length_set]; omega) (set_all HO.out HX.out.2.2))
    have hLB2 := be_len f (ts.set cN t)
    unfold BSl at HC2 HD2
    generalize beB (batE f (ts.set cN t)) = bs2 at HC2 HD2 hLB2
    generalize beE (batE f (ts.set cN t)) = E2 at HC2 HD2
    clear d0 d1 d2 d3 d4 d5 r0 r1 s0 s1 s2 s3 s4 s5 vz p0 p1
    obtain ⟨r0, r1, -⟩ := vfacts2 H14.out.bc.rq
    have HK1 := hid trivial
    go_wp2_with (first
      | (go_at_call 12
         refine (HC2.out _ W13 H14.out.bc.st).mono ?_
         rintro e w14 ⟨ao14, c14, rfl, hs14, -, hb14⟩
         have H15 := hid (And.intro (H14.out.below hb14) hs14)
         obtain ⟨r0, r1, -⟩ := vfacts2 H15.out.1.bc.rq
         clear hb14 hs14)
      | (go_at_call 13
         refine (HD2.out _ w14 H15.out.1.bc.st).mono ?_
         rintro e w15 ⟨ao15, c15, rfl, hs15, -, hb15⟩
         have H16 := hid (And.intro (H15.out.1.below hb15) (And.intro (H15.out.2.below hb15) hs15))
         clear hb15 hs15)
      | (go_at_call 14
         have hk := HK1
         refine (bytes_same (.slice ao14 bs2.length c14) (.slice ao15 bs2.length c15) bs2 w15 H16.out.2.1 H16.out.2.2 (by omega)).mono ?_
         rintro e w16 ⟨hd16, rfl⟩
         have H17 := hid (H16.out.1.below hd16.below)
         clear HK1 hd16 hk)
      | (go_at_call 14
         refine (bytes_same (.slice ao10 bs.length c10) (.slice ao11 bs.length c11) bs w16 H17.out.sl H17.out.sm (by omega)).mono ?_
         rintro e w17 ⟨hd17, rfl⟩
         have H18 := hid (H17.out.below hd17.below)
         clear hd17)
      | (go_at_call 11
         refine (known_any w17).mono ?_
         rintro e w18 ⟨rfl, hb18⟩
         have H19 := hid (below_on H18.out.bc.hb hb18)
         clear hb18))
    go_ret
    exact ⟨rfl, H19.out⟩
  · obtain ⟨cN, hwr, hcN⟩ : ∃ c : Nat, i.tmod ts.length = c ∧ c < ts.length := by
      have := HTB.out
      exact ⟨(i.tmod ts.length).toNat, by omega, by omega⟩
    have HWR := hid hwr
    clear hwr
    go_upto_region 13 with fail
    rw [HWR.out]
    clear hneg
    obtain ⟨u, hu⟩ : ∃ u, ts[cN]? = some u := ⟨_, List.getElem?_eq_getElem hcN⟩
    obtain ⟨z, hz, _, hcz⟩ := H13.out.bc.tn.get hu
    obtain ⟨d0, d1, d2, d3, d4, d5⟩ := hcz
    obtain ⟨s0, s1, s2, s3, s4, s5, -⟩ := vfacts6 H13.out.bc.bx.r5
    have vz : ∀ o, w13.frozen? ⟨tb, o, none⟩ = false := fun o => by obtain ⟨cs, hcs⟩ := H13.out.bc.tn.bk; simp [World.frozen?, hcs]
    have hcN' : (cN : Int) < (ts.length : Int) := by omega
    have hccN : (ts.length : Int) ≤ (c : Int) := by have := H13.out.bc.tn.hc; omega
    clear hu hz
    go_upto_region 14 with fail
    refine cutG (fun W => Bd7 w W f q (.slice (some ⟨tb, 0, none⟩) ts.length c) (ts.set cN t) (.slice ao10 bs.length c10) (.slice ao11 bs.length c11) bs) (H13.out.set HX.out hcN) ?_
    intro W13 H14
    have H14 := hid H14
    have HC2 := hid (fun S W (h : TsAt 0 W S (ts.set cN t)) => benc_u 0 f S (ts.set cN t) W h (set_all (sma_L HSA.out) (sma_L HSX.out t (by simp))) (by rw [List.length_set]; omega) (set_all HO.out HX.out.2.2))
    have HD2 := hid (fun S W (h : TsAt 0 W S (ts.set cN t)) => rbenc_u 0 f S (ts.set cN t) W h (set_all (sma_L HSA.out) (sma_L HSX.out t (by simp))) (by rw [List.length_set]; omega) (set_all HO.out HX.out.2.2))
    have hLB2 := be_len f (ts.set cN t)
    unfold BSl at HC2 HD2
    generalize beB (batE f (ts.set cN t)) = bs2 at HC2 HD2 hLB2
    generalize beE (batE f (ts.set cN t)) = E2 at HC2 HD2
    clear d0 d1 d2 d3 d4 d5 r0 r1 s0 s1 s2 s3 s4 s5 vz p0 p1
    obtain ⟨r0, r1, -⟩ := vfacts2 H14.out.bc.rq
    have HK1 := hid trivial
    go_wp2_with (first
      | (go_at_call 12
         refine (HC2.out _ W13 H14.out.bc.st).mono ?_
         rintro e w14 ⟨ao14, c14, rfl, hs14, -, hb14⟩
         have H15 := hid (And.intro (H14.out.below hb14) hs14)
         obtain ⟨r0, r1, -⟩ := vfacts2 H15.out.1.bc.rq
         clear hb14 hs14)
      | (go_at_call 13
         refine (HD2.out _ w14 H15.out.1.bc.st).mono ?_
         rintro e w15 ⟨ao15, c15, rfl, hs15, -, hb15⟩
         have H16 := hid (And.intro (H15.out.1.below hb15) (And.intro (H15.out.2.below hb15) hs15))
         clear hb15 hs15)
      | (go_at_call 14
         have hk := HK1
         refine (bytes_same (.slice ao14 bs2.length c14) (.slice ao15 bs2.length c15) bs2 w15 H16.out.2.1 H16.out.2.2 (by omega)).mono ?_
         rintro e w16 ⟨hd16, rfl⟩
         have H17 := hid (H16.out.1.below hd16.below)
         clear HK1 hd16 hk)
      | (go_at_call 14
         refine (bytes_same (.slice ao10 bs.length c10) (.slice ao11 bs.length c11) bs w16 H17.out.sl H17.out.sm (by omega)).mono ?_
         rintro e w17 ⟨hd17, rfl⟩
         have H18 := hid (H17.out.below hd17.below)
         clear hd17)
      | (go_at_call 11
         refine (known_any w17).mono ?_
         rintro e w18 ⟨rfl, hb18⟩
         have H19 := hid (below_on H18.out.bc.hb hb18)
         clear hb18))
    go_ret
    exact ⟨rfl, H19.out⟩

set_option maxRecDepth 100000 in
set_option maxHeartbeats 4000000 in
theorem encodes_long (f : Int) (S : Value) (ys : List Tx2) (x : Tx2) (i : Int) (w : World) (h : BatR w S ys) (hx : Tx2Ok w x) (hs : ¬ (Sma (ys.map Tx2.t) ∧ Sma [x.t])) :
    Calls Tryz.prog 4 #[.agg #[.int .i64 f, S], txv x.t x.S1 x.S2, .int .i64 i] w fun e w' => e = .returned (.bool true) ∧ Below w.heap.size w w' := by
  have H0 := hid (bx_start w f S x)
  have HTS := hid h.ts
  have HL1 := hid (fun W (hb : Below w.heap.size w W) => long_any 0 f S (ys.map Tx2.t) W (h.ts.below hb))
  have HL2 := hid (fun W (hb : Below w.heap.size w W) => long_any 0 0 _ [x.t] _ (one_ts hx hb))
  unfold LgP at HL1 HL2
  obtain ⟨ao, cap, rfl, -⟩ := h.1.shape
  obtain ⟨t, a1, c1, a2, c2⟩ := x
  dsimp only [Tx2.S1, Tx2.S2] at *
  clear h hx
  by_cases s1 : Sma (ys.map Tx2.t)
  · have s2 : ¬ Sma [t] := fun h => hs ⟨s1, h⟩
    rw [decide_eq_true s1] at HL1
    rw [decide_eq_false s2] at HL2
    clear hs s1 s2
    go_enter Tryz.func4, Tryz.ntmps4
    go_wp2_with (go_at_call 6; first
      | ((with_reducible show Calls _ _ _ (World.alloc (World.alloc w _) _) _)
         refine (HL1.out _ H0.out.hb).mono ?_
         rintro e w1 ⟨rfl, hb1⟩
         have H1 := hid (H0.out.below hb1)
         obtain ⟨q0, q1, q2, q3, q4, q5, -⟩ := vfacts6 H1.out.r5
         clear hb1)
      | (refine (HL2.out _ H1.out.hb).mono ?_
         rintro e w2 ⟨rfl, hb2⟩
         have H2 := hid (below_on H1.out.hb (below_on (below1 w1 _) hb2))
         clear hb2))
    go_ret
    exact ⟨rfl, H2.out⟩
  · rw [decide_eq_false s1] at HL1
    clear hs s1
    go_enter Tryz.func4, Tryz.ntmps4
    go_wp2_with (go_at_call 6
                 refine (HL1.out _ H0.out.hb).mono ?_
                 rintro e w1 ⟨rfl, hb1⟩
                 have H1 := hid (H0.out.below hb1)
                 clear hb1)
    go_ret
    exact ⟨rfl, H1.out.hb⟩

theorem encodes_any (f : Int) (S : Value) (ys : List Tx2) (x : Tx2) (i : Int) (w : World) (h : BatR w S ys) (hx : Tx2Ok w x) :
    Calls Tryz.prog 4 #[.agg #[.int .i64 f, S], txv x.t x.S1 x.S2, .int .i64 i] w fun e w' => e = .returned (.bool true) ∧ Below w.heap.size w w' := by
  by_cases hs : Sma (ys.map Tx2.t) ∧ Sma [x.t]
  · exact encodes_ok f S ys x i w h hx hs.1 hs.2
  · exact encodes_long f S ys x i w h hx hs

end Go.Proofs.YtdnlfacfleemeaaGreat
