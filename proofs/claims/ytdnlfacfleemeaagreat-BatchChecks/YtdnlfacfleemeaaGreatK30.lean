import Derived.Test.YtdnlfacfleemeaaGreatK26
import Derived.Test.YtdnlfacfleemeaaGreatK18
import Derived.Test.YtdnlfacfleemeaaGreatK29
import Derived.ProofKit
import Derived.OpenShut
import Derived.ShutString
import Derived.ChangeOld
namespace Go.Proofs.YtdnlfacfleemeaaGreat
open Go.RowKit Go.Lib

theorem tMark_at (zs : List Tx2) (m : Nat) (h : m < 5) : (zs ++ tMarks 5)[zs.length + m]? = some (tMark m) := by
  rw [List.getElem?_append_right (by omega)]
  simp [tMarks, h]
theorem vMark_at (vs : List Vd) (m : Nat) (h : m < 5) : (vs ++ vMarks 5)[vs.length + m]? = some (vMark m) := by
  rw [List.getElem?_append_right (by omega)]
  simp [vMarks, h]
theorem iMark_at (xs : List Ins) (m : Nat) (h : m < 5) : (xs ++ iMarks 5)[xs.length + m]? = some (iMark m) := by
  rw [List.getElem?_append_right (by omega)]
  simp [iMarks, h]

theorem tn_round {B : Nat} {w wr : World} {tb c : Nat} {zs : List Tx2} {ts : List Txd} (h : Tn B w tb c zs ts) (hb : Below w.heap.size w wr) {n : Nat} {t : Txd} (ht : ts[n]? = some t) :
    ∃ gx zc1 gv zc2, TxC wr tb (n * 6) t (.slice (some ⟨gx, 0, none⟩) t.xs.length zc1) (.slice (some ⟨gv, 0, none⟩) t.vs.length zc2) ∧ t.xs.length + 5 ≤ zc1 ∧ t.vs.length + 5 ≤ zc2 ∧
      (∀ (m : Nat) (W : World), m < 5 → Below w.heap.size w W → W.cell? ⟨gx, (t.xs.length + m) * 8, none⟩ = some (.int .i64 (60 + (m : Int))) ∧ W.cell? ⟨gv, (t.vs.length + m) * 3, none⟩ = some (.int .i64 (50 + (m : Int)))) := by
  obtain ⟨z, hz, hzt, hc⟩ := (h.below hb).get ht
  obtain ⟨⟨gx, cux, ex1, -, -, ex4, ex5, ex6⟩, ⟨gv, cuv, ev1, -, -, ev4, ev5, ev6⟩⟩ := h.zl z hz
  obtain ⟨tz, za1, zc1, za2, zc2⟩ := z
  dsimp only [Tx2.S1, Tx2.S2] at *
  subst hzt ex1 ev1
  exact ⟨gx, zc1, gv, zc2, hc, ex4, ev4, fun m W hm hW => ⟨((ex6 _ _ (iMark_at tz.xs m hm)).same (hW.block gx (lt_of ex5))).1, ((ev6 _ _ (vMark_at tz.vs m hm)).same (hW.block gv (lt_of ev5))).1⟩⟩

theorem tn_mark {B : Nat} {w wr : World} {tb c : Nat} {zs : List Tx2} {ts : List Txd} (h : Tn B w tb c zs ts) (hb : Below w.heap.size w wr) {m : Nat} (hm : m < 5) : wr.cell? ⟨tb, (ts.length + m) * 6, none⟩ = some (.int .i64 (70 + (m : Int))) := by
  have hz : zs.length = ts.length := by rw [← h.hz, List.length_map]
  have := (h.below hb).at' (ts.length + m) (tMark m) (by rw [← hz]; exact tMark_at zs m hm)
  exact this.1

theorem five {n c : Nat} (h : n ≤ 300) (hc : n + 5 ≤ c) : wrap64 ((n : Int) + 5) = (n : Int) + 5 ∧ ((n : Int) + 5).toNat = n + 5 ∧ (n : Int) + 5 ≤ (c : Int) := by
  refine ⟨?_, by omega, by omega⟩
  unfold wrap64
  omega

theorem far {n m : Nat} (h : n ≤ 300) (hm : m < 5) : ((n + m : Nat) : Int) < (n : Int) + 5 ∧ (n : Int) ≤ ((n + m : Nat) : Int) ∧ decide (((n + m : Nat) : Int) < (n : Int)) = false ∧ (n : Int) + (m : Int) < (n : Int) + 5 ∧ wrap64 (70 + ((n : Int) + (m : Int))) = 70 + ((n : Int) + (m : Int)) ∧ wrap64 (70 + ((n : Int) + (m : Int)) - (n : Int)) = 70 + (m : Int) ∧ 0 ≤ (n : Int) + (m : Int) := by
  refine ⟨by omega, by omega, by simp; omega, by omega, ?_, ?_, by omega⟩ <;> (unfold wrap64; omega)

theorem near {n m : Nat} (h : n ≤ 300) (hm : m < 5) : wrap64 (n : Int) = n ∧ wrap64 ((n : Int) + m) = (n : Int) + m ∧ (n : Int) + m < (n : Int) + 5 ∧ 0 ≤ (n : Int) + m ∧ ((n : Int) + m).toNat = n + m ∧ wrap64 (50 + (m : Int)) = 50 + (m : Int) ∧ wrap64 (60 + (m : Int)) = 60 + (m : Int) := by
  have e : ∀ a : Int, 0 ≤ a → a ≤ 1000 → wrap64 a = a := fun a h0 h1 => by unfold wrap64; omega
  exact ⟨e _ (by omega) (by omega), e _ (by omega) (by omega), by omega, by omega, by omega, e _ (by omega) (by omega), e _ (by omega) (by omega)⟩

set_option maxRecDepth 100000 in
set_option maxHeartbeats 8000000 in
theorem stands_any (B : Nat) (f : Int) (tb c : Nat) (zs : List Tx2) (ts : List Txd) (S : Value) (w : World) (h : Tn B w tb c zs ts) (hS : TsAt 0 w S ts) (hs : Sma ts) :
    Calls Tryz.prog 10 #[.agg #[.int .i64 f, .slice (some ⟨tb, 0, none⟩) ts.length c], .agg #[.int .i64 f, S]] w fun e w' => e = .returned (.bool true) ∧ Below w.heap.size w w' := by
  have H0 := hid (sq_start w f (.slice (some ⟨tb, 0, none⟩) ts.length c) f S)
  have HT := hid h
  have HS := hid hS
  have hl3 : ts.length ≤ 300 := hs.1
  have HSM := hid hs
  have HE := hid (fun W (hb : Below w.heap.size w W) => bsame_any 0 0 f _ ts f _ ts W (HT.out.ts.below hb) (HS.out.below hb) (sma_L HSM.out) (by omega))
  rw [decide_eq_true ⟨rfl, rfl⟩] at HE
  have hc' : (ts.length : Int) + 5 ≤ (c : Int) := by have := h.hc; omega
  have hz : zs.length = ts.length := by rw [← h.hz, List.length_map]
  have HZ := hid hz
  obtain ⟨ao, c2, rfl, hc2, hcells⟩ := hS
  have HC := hid hcells
  have hw5 : wrap64 ((ts.length : Int) + 5) = (ts.length : Int) + 5 := by unfold wrap64; omega
  have ht5 : ((ts.length : Int) + 5).toNat = ts.length + 5 := by omega
  have HW := hid (And.intro hw5 ht5)
  clear h hs hz hcells hc2
  go_enter Tryz.func10, Tryz.ntmps10
  go_wp2_with (go_at_call 17
               refine (HE.out _ H0.out.hb).mono ?_
               rintro e w1 ⟨rfl, hb1⟩
               have H1 := hid (H0.out.below hb1)
               obtain ⟨p0, p1, -⟩ := vfacts2 H1.out.r0
               obtain ⟨q0, q1, -⟩ := vfacts2 H1.out.r1
               clear hb1)
  go_loopw [6] (fun ix wr => ∃ (n : Nat), n ≤ ts.length + 5 ∧ ix = .int .i64 n ∧ Hid (Sq w wr f (.slice (some ⟨tb, 0, none⟩) ts.length c) f (.slice ao ts.length c2))) (fun ix _ => ts.length + 5 - (intOf ix).toNat)
  case atStart => exact ⟨0, Nat.zero_le _, rfl, H1⟩
  case round =>
    clear H0 H1 HE p0 p1 q0 q1 hw5 ht5
    obtain ⟨n, hn, rfl, hP⟩ := hrel
    obtain ⟨q0, q1, -⟩ := vfacts2 hP.out.r1
    by_cases hlt : n < ts.length
    · obtain ⟨t, ht⟩ : ∃ t, ts[n]? = some t := ⟨_, List.getElem?_eq_getElem hlt⟩
      obtain ⟨gx, zc1, gv, zc2, hc, ex4, ev4, hmk⟩ := tn_round HT.out hP.out.hb ht
      obtain ⟨b, off, rfl, -, hat⟩ := HC.out (by intro e; rw [e] at hlt; simp at hlt)
      obtain ⟨S1, S2, hcb, hS1, hS2⟩ := hat n t ht
      obtain ⟨g0, g1, g2, g3, g4, g5⟩ := hcb.same (hP.out.hb.block b hcb.lt)
      obtain ⟨a1, cc1, rfl⟩ := hS1.form
      obtain ⟨a2, cc2, rfl⟩ := hS2.form
      obtain ⟨hm1, hm2⟩ := HSM.out.2 t (List.mem_of_getElem? ht)
      have HMK := hid hmk
      obtain ⟨d0, d1, d2, d3, d4, d5⟩ := hc
      have hlt1 : (n : Int) < (ts.length : Int) + 5 := by omega
      have hlt2 : (n : Int) < (ts.length : Int) := by omega
      have hge : decide ((ts.length : Int) ≤ (n : Int)) = false := by simp; omega
      obtain ⟨hx5, hx6, hx7⟩ := five hm2 ex4
      obtain ⟨hv5, hv6, hv7⟩ := five hm1 ev4
      have HM := hid (And.intro hm1 hm2)
      clear hat hcb hS1 hS2 ht hmk ex4 ev4 hm1 hm2
      go_upto_region 10 with fail
      go_quiet (fail)
      go_wp2
      go_quiet (fail)
      go_wp2
      clear d0 d1 d2 d3 d4 d5 g0 g1 g2 g3 g4 g5 hx5 hx6 hx7 hv5 hv6 hv7 q0 q1
      go_loopw [9] (fun iy wz => ∃ (m : Nat), m ≤ 5 ∧ iy = .int .i64 m ∧ Hid (Sq w wz f (.slice (some ⟨tb, 0, none⟩) ts.length c) f (.slice (some ⟨b, off, none⟩) ts.length c2))) (fun iy _ => 5 - (intOf iy).toNat)
      case atStart => exact ⟨0, Nat.zero_le _, rfl, hid ((hP.out.below (Below.drewN0 _ _)).below (Below.drewN0 _ _))⟩
      case round =>
        rename World => wz
        obtain ⟨m, hm, rfl, hQ⟩ := hrel
        by_cases h5 : m < 5
        · obtain ⟨x0, v0⟩ := HMK.out m wz h5 hQ.out.hb
          have h5' : (m : Int) < 5 := by omega
          have HA := hid (And.intro hn (And.intro hlt (And.intro hm h5)))
          clear hn hlt hm h5 hlt1 hlt2 hge hl3 hc'
          obtain ⟨j1, j2, -, -, j5, -, -⟩ := near (n := t.xs.length) (m := m) HM.out.2 HA.out.2.2.2
          obtain ⟨k1, k2, -, -, k5, -, -⟩ := near (n := t.vs.length) (m := m) HM.out.1 HA.out.2.2.2
          go_wp2
          clear j1 j2 j5 k1 k2 k5
          obtain ⟨hn, hlt, hm, h5⟩ := HA.out
          go_roundw
          case rel => first | exact ⟨m + 1, by omega, by go_num, hQ⟩ | ((repeat apply Exists.intro); exact ⟨⟨m + 1, by omega, by go_num, hQ⟩, rfl⟩)
          case measure => simp [intOf]; omega
        · obtain rfl : m = 5 := by omega
          go_wp2
          go_roundw
          case rel => first | exact ⟨n + 1, by omega, by go_num, hQ⟩ | ((repeat apply Exists.intro); exact ⟨⟨n + 1, by omega, by go_num, hQ⟩, rfl⟩)
          case measure => simp [intOf]; omega
    · obtain ⟨m, rfl⟩ : ∃ m, n = ts.length + m := ⟨n - ts.length, by omega⟩
      by_cases h5 : m < 5
      · have hk := tn_mark HT.out hP.out.hb h5
        obtain ⟨j1, j2, j3, j4, j5, j6, j7⟩ := far (n := ts.length) (m := m) hl3 h5
        clear hlt hn
        go_wp2
        go_quiet (fail)
        go_wp2
        clear j1 j2 j3 j4 j5 j6 j7
        go_roundw
        case rel => first | exact ⟨ts.length + m + 1, by omega, by go_num, hid (hP.out.below (Below.drewN0 _ _))⟩ | ((repeat apply Exists.intro); exact ⟨⟨ts.length + m + 1, by omega, by go_num, hid (hP.out.below (Below.drewN0 _ _))⟩, rfl⟩)
        case measure => simp [intOf]; omega
      · obtain rfl : m = 5 := by omega
        have hd : decide (((ts.length + 5 : Nat) : Int) < (ts.length : Int) + 5) = false := by simp
        go_wp2
        go_ret
        exact ⟨rfl, hP.out.hb⟩

end Go.Proofs.YtdnlfacfleemeaaGreat

namespace Go.Proofs.YtdnlfacfleemeaaGreat
open Go.RowKit Go.Lib

/-- The law with the twin. -/
structure Bc4 (w W : World) (f : Int) (S : Value) (x : Tx2) (B tb c : Nat) (zs : List Tx2) (ts : List Txd) (q : Nat) : Prop where
  bx : Bx w W f S x
  tn : Tn B W tb c zs ts
  rq : W.heap[q]? = some (bo f (.slice (some ⟨tb, 0, none⟩) ts.length c))
  lB : w.heap.size + 1 < B
  lt : tb < q

theorem Bc4.below {w W W' : World} {f : Int} {S : Value} {x : Tx2} {B tb c : Nat} {zs : List Tx2} {ts : List Txd} {q : Nat} (h : Bc4 w W f S x B tb c zs ts q) (hb : Below W.heap.size W W') : Bc4 w W' f S x B tb c zs ts q :=
  ⟨h.bx.below hb, h.tn.below hb, blk_of hb h.rq (lt_of h.rq), h.lB, h.lt⟩

theorem bc4_start {w w6 w7 : World} {f : Int} {S : Value} {x : Tx2} {tb c : Nat} {zs : List Tx2} {ts : List Txd} {cur : Array Value} (h6 : Bx w w6 f S x) (hz : zs.map Tx2.t = ts) (hc : ts.length + 5 ≤ c) (hB : w6.heap.size ≤ tb) (hblk : w7.heap[tb]? = some (.cells cur 30 (0, 0)))
    (hat : ∀ (j : Nat) (z : Tx2), (zs ++ tMarks 5)[j]? = some z → TxC w7 tb (j * 6) z.t z.S1 z.S2) (hzl : ∀ z ∈ zs, ZL w6.heap.size w7.heap.size w7 z) (hb7 : Below w6.heap.size w6 w7) :
    Bc4 w (w7.alloc (bo f (.slice (some ⟨tb, 0, none⟩) ts.length c))) f S x w6.heap.size tb c zs ts w7.heap.size := by
  have ha := below1 w7 (bo f (.slice (some ⟨tb, 0, none⟩) ts.length c))
  have hb := below_on hb7 ha
  exact ⟨h6.below hb, (Tn.mk hz hc hB ⟨cur, hblk⟩ hat hzl).below ha, heap_alloc_new w7 _, lt_of h6.r5, lt_of hblk⟩

/-- With another transaction in it. -/
structure Bc5 (w W : World) (f : Int) (q : Nat) (S' : Value) (ts : List Txd) : Prop where
  hb : Below w.heap.size w W
  st : TsAt 0 W S' ts
  rq : W.heap[q]? = some (bo f S')

theorem Bc5.below {w W W' : World} {f : Int} {q : Nat} {S' : Value} {ts : List Txd} (h : Bc5 w W f q S' ts) (hb : Below W.heap.size W W') : Bc5 w W' f q S' ts :=
  ⟨below_on h.hb hb, h.st.below hb, blk_of hb h.rq (lt_of h.rq)⟩

theorem Bc4.set {w W : World} {f : Int} {S : Value} {x : Tx2} {B tb c : Nat} {zs : List Tx2} {ts : List Txd} {q : Nat} (h : Bc4 w W f S x B tb c zs ts q) (hx : Tx2Ok w x) {i : Nat} (hi : i < ts.length) :
    Bc5 w (put6o W tb (i * 6) (.int .i64 x.t.k) (.string x.t.pn) (.int .i64 x.t.pa) x.S1 (.string x.t.nm) x.S2) f q (.slice (some ⟨tb, 0, none⟩) ts.length c) (ts.set i x.t) := by
  have hlB := h.lB
  have hlt := h.lt
  have hB := h.tn.hB
  obtain ⟨h1, hk⟩ := h.tn.set h.bx.hb (by omega) hx hi
  exact ⟨h.bx.hb.trans (hk.below h.bx.hb.size (fun k h1 h2 => by omega)), h1, (hk.block _ (lt_of h.rq) (by omega)).trans h.rq⟩

set_option maxRecDepth 100000 in
set_option maxHeartbeats 32000000 in
theorem checks_ok (f : Int) (S : Value) (ys : List Tx2) (x : Tx2) (i : Int) (w : World) (h : BatR w S ys) (hx : Tx2Ok w x) (hs1 : Sma (ys.map Tx2.t)) (hs2 : Sma [x.t]) :
    Calls Tryz.prog 3 #[.agg #[.int .i64 f, S], txv x.t x.S1 x.S2, .int .i64 i] w fun e w' => e = .returned (.bool true) ∧ Below w.heap.size w w' := by
  have H0 := hid (bx_start w f S x)
  have HB := hid h
  have HTS := hid h.ts
  have HX := hid hx
  have HSA := hid hs1
  have HSX := hid hs2
  have hl3 : ys.length ≤ 300 := by have := hs1.1; rwa [List.length_map] at this
  have HL1 := hid (fun W (hb : Below w.heap.size w W) => long_any 0 f S (ys.map Tx2.t) W (HTS.out.below hb))
  have HL2 := hid (fun W (hb : Below w.heap.size w W) => long_any 0 0 _ [x.t] _ (one_ts HX.out hb))
  unfold LgP at HL1 HL2
  rw [decide_eq_true hs1] at HL1
  rw [decide_eq_true hs2] at HL2
  have HD := hid (fun W (hb : Below w.heap.size w W) => rbcheck_any 0 f S (ys.map Tx2.t) W (HTS.out.below hb) (sma_L HSA.out) (by rw [List.length_map]; omega))
  have HTW := hid (fun W (hb : Below w.heap.size w W) => twin_any f S ys W (HB.out.below hb) HSA.out)
  obtain ⟨ao, cap, rfl, -⟩ := h.1.shape
  obtain ⟨ts, hts⟩ : ∃ ts, ts = ys.map Tx2.t := ⟨_, rfl⟩
  have hly : ys.length = ts.length := by rw [hts, List.length_map]
  rw [← hts] at HSA HTS HTW HD
  rw [hly] at HTS HL1 HTW H0 hl3 HD ⊢
  have HC := hid (fun S W (h : TsAt 0 W S ts) => bcheck_any 0 f S ts W h (sma_L HSA.out) (by omega))
  have HST := hid (fun B tb c zs W (h : Tn B W tb c zs ts) (hb : Below w.heap.size w W) => stands_any B f tb c zs ts _ W h (HTS.out.below hb) HSA.out)
  obtain ⟨t, a1, c1, a2, c2⟩ := x
  dsimp only [Tx2.S1, Tx2.S2] at *
  clear h hx hs1 hs2 HB hts hly
  generalize batChk f ts = E at HC HD
  go_enter Tryz.func3, Tryz.ntmps3
  go_upto_region 4 with (first
    | (go_at_call 6
       first
       | ((with_reducible show Calls _ _ _ (World.alloc (World.alloc w _) _) _)
          refine (HL1.out _ H0.out.hb).mono ?_
          rintro e w1 ⟨rfl, hb1⟩
          have H1 := hid (H0.out.below hb1)
          obtain ⟨q0, q1, q2, q3, q4, q5, -⟩ := vfacts6 H1.out.r5
          clear hb1)
       | (refine (HL2.out _ H1.out.hb).mono ?_
          rintro e w2 ⟨rfl, hb2⟩
          have H2 := hid (H1.out.below (below_on (below1 w1 _) hb2))
          obtain ⟨p0, p1, -⟩ := vfacts2 H2.out.r4
          clear hb2))
    | (go_at_call 7
       refine (HTW.out _ H2.out.hb).mono ?_
       rintro e w7 ⟨zs, tb, c, cur, rfl, hz7, hc7, hB7, hk7, hat7, hzl7, hb7⟩
       have H8 := hid (bc4_start H2.out hz7 hc7 hB7 hk7 hat7 hzl7 hb7)
       clear hz7 hc7 hB7 hk7 hat7 hzl7 hb7))
  clear H1 H0 HTW HL1 HL2 q0 q1 q2 q3 q4 q5 p0 p1
  obtain ⟨q, hq⟩ : ∃ q, q = w7.heap.size := ⟨_, rfl⟩
  obtain ⟨B, hBq⟩ : ∃ B, B = w2.heap.size := ⟨_, rfl⟩
  rw [← hq, ← hBq] at H8
  rw [← hq]
  refine cutG (fun W => Bc4 w W f (.slice ao ts.length cap) ⟨t, a1, c1, a2, c2⟩ B tb c zs ts q) H8.out ?_
  intro W9 H9
  have H9 := hid H9
  clear H8 hq hBq H2 cur
  obtain ⟨p0, p1, -⟩ := vfacts2 H9.out.bx.r4
  obtain ⟨r0, r1, -⟩ := vfacts2 H9.out.rq
  go_region_held (fun wx => wx.cell? ⟨q, 0, none⟩ = some (.int .i64 f) ∧ wx.cell? ⟨q, 1, none⟩ = some (.slice (some ⟨tb, 0, none⟩) ts.length c) ∧ wx.cell? ⟨w.heap.size, 0, none⟩ = some (.int .i64 f) ∧ wx.cell? ⟨w.heap.size, 1, none⟩ = some (.slice ao ts.length cap)) (go_keep) (first
    | (go_at_call 8
       refine (HC.out _ W9.drew (H9.out.tn.ts.below (below_drew W9))).mono ?_
       rintro e w10 ⟨rfl, hb10⟩
       have H10 := hid (H9.out.below (below_on (below_drew W9) hb10))
       obtain ⟨p0, p1, -⟩ := vfacts2 H10.out.bx.r4
       obtain ⟨r0, r1, -⟩ := vfacts2 H10.out.rq
       clear hb10)
    | (go_at_call 9
       refine (HD.out w10 H10.out.bx.hb).mono ?_
       rintro e w11 ⟨rfl, hb11⟩
       have H11 := hid (H10.out.below hb11)
       obtain ⟨p0, p1, -⟩ := vfacts2 H11.out.bx.r4
       obtain ⟨r0, r1, -⟩ := vfacts2 H11.out.rq
       clear hb11)
    | (go_at_call 10
       refine (HST.out _ _ _ _ w11 H11.out.tn H11.out.bx.hb).mono ?_
       rintro e w12 ⟨rfl, hb12⟩
       have H12 := hid (H11.out.below hb12)
       obtain ⟨p0, p1, -⟩ := vfacts2 H12.out.bx.r4
       obtain ⟨r0, r1, -⟩ := vfacts2 H12.out.rq
       clear hb12))
  clear HC HD HST
  by_cases hnil : ts = []
  · subst hnil
    go_wp2_with (first
      | (go_at_call 11
         refine (known_any _).mono ?_
         rintro e w13 ⟨rfl, hb13⟩
         have H13 := hid (below_on H12.out.bx.hb hb13)
         clear hb13))
    go_ret
    exact ⟨rfl, H13.out⟩
  have hpos : 0 < ts.length := List.length_pos_iff.2 hnil
  have hpos' : (0 : Int) < (ts.length : Int) := by omega
  have hz0 : ((ts.length : Int) == 0) = false := by simp; exact hnil
  have htb : -(ts.length : Int) < i.tmod ts.length ∧ i.tmod ts.length < ts.length := by
    have h1 : (i.tmod ts.length).natAbs < ts.length := by
      rw [Int.natAbs_tmod]
      exact Nat.mod_lt _ hpos
    omega
  have HTB := hid htb
  clear htb hnil
  by_cases hneg : i.tmod ts.length < 0
  · obtain ⟨cN, hwr, hcN⟩ : ∃ c : Nat, wrap64 (i.tmod ts.length + ts.length) = c ∧ c < ts.length := by
      have := HTB.out
      refine ⟨(i.tmod ts.length + ts.length).toNat, ?_, by omega⟩
      unfold wrap64
      omega
    have HWR := hid hwr
    clear hwr
    go_upto_region 11 with fail
    rw [HWR.out]
    obtain ⟨u, hu⟩ : ∃ u, ts[cN]? = some u := ⟨_, List.getElem?_eq_getElem hcN⟩
    obtain ⟨z, hz, _, hcz⟩ := H12.out.tn.get hu
    obtain ⟨d0, d1, d2, d3, d4, d5⟩ := hcz
    obtain ⟨s0, s1, s2, s3, s4, s5, -⟩ := vfacts6 H12.out.bx.r5
    have vz : ∀ o, w12.frozen? ⟨tb, o, none⟩ = false := fun o => by obtain ⟨cs, hcs⟩ := H12.out.tn.bk; simp [World.frozen?, hcs]
    have hcN' : (cN : Int) < (ts.length : Int) := by omega
    have hccN : (ts.length : Int) ≤ (c : Int) := by have := H12.out.tn.hc; omega
    clear hu hz
    go_upto_region 12 with fail
    refine cutG (fun W => Bc5 w W f q (.slice (some ⟨tb, 0, none⟩) ts.length c) (ts.set cN t)) (H12.out.set HX.out hcN) ?_
    intro W13 H13
    have H13 := hid H13
    have HC2 := hid (fun S W (h : TsAt 0 W S (ts.set cN t)) => bcheck_any 0 f S (ts.set cN t) W h (set_all (sma_L HSA.out) (sma_L HSX.out t (by simp))) (by rw [List.length_set]; omega))
    have HD2 := hid (fun S W (h : TsAt 0 W S (ts.set cN t)) => rbcheck_any 0 f S (ts.set cN t) W h (set_all (sma_L HSA.out) (sma_L HSX.out t (by simp))) (by rw [List.length_set]; omega))
    generalize batChk f (ts.set cN t) = E2 at HC2 HD2
    clear d0 d1 d2 d3 d4 d5 r0 r1 s0 s1 s2 s3 s4 s5 vz p0 p1
    obtain ⟨r0, r1, -⟩ := vfacts2 H13.out.rq
    go_region_held (fun wx => wx.cell? ⟨q, 0, none⟩ = some (.int .i64 f) ∧ wx.cell? ⟨q, 1, none⟩ = some (.slice (some ⟨tb, 0, none⟩) ts.length c)) (go_keep) (first
      | (go_at_call 8
         refine (HC2.out _ W13.drew (H13.out.st.below (below_drew W13))).mono ?_
         rintro e w14 ⟨rfl, hb14⟩
         have H14 := hid (H13.out.below (below_on (below_drew W13) hb14))
         obtain ⟨r0, r1, -⟩ := vfacts2 H14.out.rq
         clear hb14)
      | (go_at_call 9
         refine (HD2.out _ w14 H14.out.st).mono ?_
         rintro e w15 ⟨rfl, hb15⟩
         have H15 := hid (H14.out.below hb15)
         obtain ⟨r0, r1, -⟩ := vfacts2 H15.out.rq
         clear hb15)
      | (go_at_call 11
         refine (known_any w15).mono ?_
         rintro e w16 ⟨rfl, hb16⟩
         have H16 := hid (H15.out.below hb16)
         obtain ⟨r0, r1, -⟩ := vfacts2 H16.out.rq
         clear hb16))
    go_wp2
    go_ret
    exact ⟨rfl, H16.out.hb⟩
  · obtain ⟨cN, hwr, hcN⟩ : ∃ c : Nat, i.tmod ts.length = c ∧ c < ts.length := by
      have := HTB.out
      exact ⟨(i.tmod ts.length).toNat, by omega, by omega⟩
    have HWR := hid hwr
    clear hwr
    go_upto_region 11 with fail
    rw [HWR.out]
    clear hneg
    obtain ⟨u, hu⟩ : ∃ u, ts[cN]? = some u := ⟨_, List.getElem?_eq_getElem hcN⟩
    obtain ⟨z, hz, _, hcz⟩ := H12.out.tn.get hu
    obtain ⟨d0, d1, d2, d3, d4, d5⟩ := hcz
    obtain ⟨s0, s1, s2, s3, s4, s5, -⟩ := vfacts6 H12.out.bx.r5
    have vz : ∀ o, w12.frozen? ⟨tb, o, none⟩ = false := fun o => by obtain ⟨cs, hcs⟩ := H12.out.tn.bk; simp [World.frozen?, hcs]
    have hcN' : (cN : Int) < (ts.length : Int) := by omega
    have hccN : (ts.length : Int) ≤ (c : Int) := by have := H12.out.tn.hc; omega
    clear hu hz
    go_upto_region 12 with fail
    refine cutG (fun W => Bc5 w W f q (.slice (some ⟨tb, 0, none⟩) ts.length c) (ts.set cN t)) (H12.out.set HX.out hcN) ?_
    intro W13 H13
    have H13 := hid H13
    have HC2 := hid (fun S W (h : TsAt 0 W S (ts.set cN t)) => bcheck_any 0 f S (ts.set cN t) W h (set_all (sma_L HSA.out) (sma_L HSX.out t (by simp))) (by rw [List.length_set]; omega))
    have HD2 := hid (fun S W (h : TsAt 0 W S (ts.set cN t)) => rbcheck_any 0 f S (ts.set cN t) W h (set_all (sma_L HSA.out) (sma_L HSX.out t (by simp))) (by rw [List.length_set]; omega))
    generalize batChk f (ts.set cN t) = E2 at HC2 HD2
    clear d0 d1 d2 d3 d4 d5 r0 r1 s0 s1 s2 s3 s4 s5 vz p0 p1
    obtain ⟨r0, r1, -⟩ := vfacts2 H13.out.rq
    go_region_held (fun wx => wx.cell? ⟨q, 0, none⟩ = some (.int .i64 f) ∧ wx.cell? ⟨q, 1, none⟩ = some (.slice (some ⟨tb, 0, none⟩) ts.length c)) (go_keep) (first
      | (go_at_call 8
         refine (HC2.out _ W13.drew (H13.out.st.below (below_drew W13))).mono ?_
         rintro e w14 ⟨rfl, hb14⟩
         have H14 := hid (H13.out.below (below_on (below_drew W13) hb14))
         obtain ⟨r0, r1, -⟩ := vfacts2 H14.out.rq
         clear hb14)
      | (go_at_call 9
         refine (HD2.out _ w14 H14.out.st).mono ?_
         rintro e w15 ⟨rfl, hb15⟩
         have H15 := hid (H14.out.below hb15)
         obtain ⟨r0, r1, -⟩ := vfacts2 H15.out.rq
         clear hb15)
      | (go_at_call 11
         refine (known_any w15).mono ?_
         rintro e w16 ⟨rfl, hb16⟩
         have H16 := hid (H15.out.below hb16)
         obtain ⟨r0, r1, -⟩ := vfacts2 H16.out.rq
         clear hb16))
    go_wp2
    go_ret
    exact ⟨rfl, H16.out.hb⟩

set_option maxRecDepth 100000 in
set_option maxHeartbeats 4000000 in
theorem checks_long (f : Int) (S : Value) (ys : List Tx2) (x : Tx2) (i : Int) (w : World) (h : BatR w S ys) (hx : Tx2Ok w x) (hs : ¬ (Sma (ys.map Tx2.t) ∧ Sma [x.t])) :
    Calls Tryz.prog 3 #[.agg #[.int .i64 f, S], txv x.t x.S1 x.S2, .int .i64 i] w fun e w' => e = .returned (.bool true) ∧ Below w.heap.size w w' := by
  have H0 := hid (bx_start w f S x)
  have HTS := hid h.ts
  have HL1 := hid (fun W (hb : Below w.heap.size w W) => long_any 0 f S (ys.map Tx2.t) W (h.ts.below hb))
  have HL2 := hid (fun W (hb : Below w.heap.size w W) => long_any 0 0 _ [x.t] _ (one_ts hx hb))
  unfold LgP at HL1 HL2
  obtain ⟨ao, cap, rfl, -⟩ := h.1.shape
  obtain ⟨t, a1, c1, a2, c2⟩ := x
  dsimp only [Tx2.S1, Tx2.S2] at *
  clear h hx
  by_cases s1 : Sma (ys.map Tx2.t)
  · have s2 : ¬ Sma [t] := fun h => hs ⟨s1, h⟩
    rw [decide_eq_true s1] at HL1
    rw [decide_eq_false s2] at HL2
    clear hs s1 s2
    go_enter Tryz.func3, Tryz.ntmps3
    go_wp2_with (go_at_call 6; first
      | ((with_reducible show Calls _ _ _ (World.alloc (World.alloc w _) _) _)
         refine (HL1.out _ H0.out.hb).mono ?_
         rintro e w1 ⟨rfl, hb1⟩
         have H1 := hid (H0.out.below hb1)
         obtain ⟨q0, q1, q2, q3, q4, q5, -⟩ := vfacts6 H1.out.r5
         clear hb1)
      | (refine (HL2.out _ H1.out.hb).mono ?_
         rintro e w2 ⟨rfl, hb2⟩
         have H2 := hid (below_on H1.out.hb (below_on (below1 w1 _) hb2))
         clear hb2))
    go_ret
    exact ⟨rfl, H2.out⟩
  · rw [decide_eq_false s1] at HL1
    clear hs s1
    go_enter Tryz.func3, Tryz.ntmps3
    go_wp2_with (go_at_call 6
                 refine (HL1.out _ H0.out.hb).mono ?_
                 rintro e w1 ⟨rfl, hb1⟩
                 have H1 := hid (H0.out.below hb1)
                 clear hb1)
    go_ret
    exact ⟨rfl, H1.out.hb⟩

end Go.Proofs.YtdnlfacfleemeaaGreat

namespace Go.Proofs.YtdnlfacfleemeaaGreat
open Go.RowKit Go.WideShapes Go.ChangeAt Go.ChangeShapes

def Tx2R (W : World) (y : Tx2) : Prop := Rf W 8 y.S1 y.t.xs.length (y.t.xs.flatMap Ins.cells) ∧ Rf W 3 y.S2 y.t.vs.length (y.t.vs.flatMap Vd.cells) ∧ TxOk y.t

set_option maxRecDepth 100000 in
theorem txR_of_trod {H : Type} {enc : TypeId × Value → H} {W : World} {base : Nat} {held : Bool} {fuel : Nat} {cs : List Value} {x : DataW H × List MemPlace}
    (h : DataW.trod enc Tryz.prog W base (fun _ => true) held fuel 30 cs = some x) : ∃ y : Tx2, Tx2R W y ∧ cs = y.cells := by
  obtain ⟨xs, n, _, rfl, hl, hlen, hf⟩ := DataW.trod_struct Tryz.underlying30 h
  rw [Tryz.cells30] at hl
  match cs, hl, xs, hlen with
  | [c0, c1, c2, c3, c4, c5], _, [y0, y1, y2, y3], _ =>
    have f0 : DataW.trod enc Tryz.prog W base (fun _ => true) held n 3 (([c0, c1, c2, c3, c4, c5].drop 0).take (Tryz.prog.cellsOf 3)) = some y0 := hf 0 _ rfl
    have f1 : DataW.trod enc Tryz.prog W base (fun _ => true) held n 27 (([c0, c1, c2, c3, c4, c5].drop 1).take (Tryz.prog.cellsOf 27)) = some y1 := hf 1 _ rfl
    have f2 : DataW.trod enc Tryz.prog W base (fun _ => true) held n 9 (([c0, c1, c2, c3, c4, c5].drop 4).take (Tryz.prog.cellsOf 9)) = some y2 := hf 2 _ rfl
    have f3 : DataW.trod enc Tryz.prog W base (fun _ => true) held n 28 (([c0, c1, c2, c3, c4, c5].drop 5).take (Tryz.prog.cellsOf 28)) = some y3 := hf 3 _ rfl
    rw [Tryz.cells3] at f0
    rw [Tryz.cells27] at f1
    rw [Tryz.cells9] at f2
    rw [Tryz.cells28] at f3
    obtain ⟨a0, e0, _, _⟩ := DataW.trod_int Tryz.underlying3 (x := y0) (by simpa using f0)
    obtain ⟨s2, e2, _, _⟩ := DataW.trod_string Tryz.underlying9 (x := y2) (by simpa using f2)
    obtain ⟨S2, vs, e3, hR3, hO3⟩ := rf_of_trod Vd.cells VdOk 3 vd_cells vd_one Tryz.underlying28 Tryz.cells51 (fun _ _ _ h => vd_of_trod h) f3
    obtain ⟨zs, n1, _, _, hl1, hlen1, hf1⟩ := DataW.trod_struct Tryz.underlying27 f1
    match zs, hlen1 with
    | [z0, z1, z2], _ =>
      have g0 : DataW.trod enc Tryz.prog W base (fun _ => true) held n1 9 (([c1, c2, c3].drop 0).take (Tryz.prog.cellsOf 9)) = some z0 := hf1 0 _ rfl
      have g1 : DataW.trod enc Tryz.prog W base (fun _ => true) held n1 3 (([c1, c2, c3].drop 1).take (Tryz.prog.cellsOf 3)) = some z1 := hf1 1 _ rfl
      have g2 : DataW.trod enc Tryz.prog W base (fun _ => true) held n1 25 (([c1, c2, c3].drop 2).take (Tryz.prog.cellsOf 25)) = some z2 := hf1 2 _ rfl
      rw [Tryz.cells9] at g0
      rw [Tryz.cells3] at g1
      rw [Tryz.cells25] at g2
      obtain ⟨pn, e10, _, _⟩ := DataW.trod_string Tryz.underlying9 (x := z0) (by simpa using g0)
      obtain ⟨pa, e11, _, _⟩ := DataW.trod_int Tryz.underlying3 (x := z1) (by simpa using g1)
      obtain ⟨S1, ys, e12, hR1, hO1⟩ := rf_of_trod Ins.cells InsOk 8 ins_cells ins_one Tryz.underlying25 Tryz.cells53 (fun _ _ _ h => ins_of_trod h) g2
      simp at e0 e2 e3 e10 e11 e12
      subst e0 e2 e3 e10 e11 e12
      obtain ⟨b1, d1, rfl, _⟩ := hR1.shape
      obtain ⟨b2, d2, rfl, _⟩ := hR3.shape
      exact ⟨⟨⟨a0, pn, pa, ys, s2, vs⟩, b1, d1, b2, d2⟩, ⟨hR1, hR3, ⟨hO1, hO3⟩⟩, rfl⟩

set_option maxRecDepth 100000 in
/-- A batch as an argument. -/
theorem batR_of_trod {H : Type} {enc : TypeId × Value → H} {W : World} {base b2 : Nat} {held : Bool} {v : Value} {d : DataW H} {p : List MemPlace} (hv : Value.okWide Tryz.prog W .any b2 24 v)
    (h : DataW.Trod enc Tryz.prog W base (fun _ => true) held 24 v d p) : ∃ (f : Int) (S : Value) (ys : List Tx2), v = .agg #[.int .i64 f, S] ∧ BatR W S ys := by
  obtain ⟨⟨cs⟩, rfl, _⟩ := okWide_struct Tryz.underlying24 hv
  obtain ⟨fuel, hf0⟩ := h
  have hf0 : DataW.trod enc Tryz.prog W base (fun _ => true) held fuel 24 cs = some (d, p) := by simpa [Value.cells] using hf0
  obtain ⟨xs, n, _, hd, hl, hlen, hf⟩ := DataW.trod_struct Tryz.underlying24 hf0
  rw [Tryz.cells24] at hl
  match cs, hl, xs, hlen with
  | [c0, c1], _, [y0, y1], _ =>
    have f0 : DataW.trod enc Tryz.prog W base (fun _ => true) held n 3 (([c0, c1].drop 0).take (Tryz.prog.cellsOf 3)) = some y0 := hf 0 _ rfl
    have f1 : DataW.trod enc Tryz.prog W base (fun _ => true) held n 22 (([c0, c1].drop 1).take (Tryz.prog.cellsOf 22)) = some y1 := hf 1 _ rfl
    rw [Tryz.cells3] at f0
    rw [Tryz.cells22] at f1
    obtain ⟨a0, e0, _, _⟩ := DataW.trod_int Tryz.underlying3 (x := y0) (by simpa using f0)
    obtain ⟨S, ys, e1, hR, hO⟩ := rf_of_trod Tx2.cells (Tx2R W) 6 tx2_cells tx2_one Tryz.underlying22 Tryz.cells30 (fun _ _ _ h => txR_of_trod h) f1
    simp at e0 e1
    subst e0 e1
    exact ⟨a0, c1, ys, rfl, hR, hO⟩


theorem checks_any (f : Int) (S : Value) (ys : List Tx2) (x : Tx2) (i : Int) (w : World) (h : BatR w S ys) (hx : Tx2Ok w x) :
    Calls Tryz.prog 3 #[.agg #[.int .i64 f, S], txv x.t x.S1 x.S2, .int .i64 i] w fun e w' => e = .returned (.bool true) ∧ Below w.heap.size w w' := by
  by_cases hs : Sma (ys.map Tx2.t) ∧ Sma [x.t]
  · exact checks_ok f S ys x i w h hx hs.1 hs.2
  · exact checks_long f S ys x i w h hx hs

end Go.Proofs.YtdnlfacfleemeaaGreat

namespace Go.Proofs.YtdnlfacfleemeaaGreat
open Go.ChangeShapes Go.WideShapes Go.ChangeAt Go.RowKit

theorem Tryz.own : ownKnob Tryz.prog.godebug = none := by kernel_rfl
theorem Tryz.laidOut : laidOutB Tryz.prog = true := by kernel_rfl

set_option maxRecDepth 100000 in
theorem checks_lifted (os : Os) (started : os.Started) (H : Type) (enc : TypeId × Value → H) :
    ReturnsInHanded {} Tryz.checked os 3 .any (Rows.batchChecksSpec.pre6 enc Tryz.prog Tryz.f3 Rows.batchChecksRow.domain false) (Rows.batchChecksSpec.post enc Tryz.prog Tryz.f3 false true false false) := by
  refine returnsInHanded_of_change (C := Tryz.checked) Tryz.own started (by kernel_rfl) Tryz.func3
    (ChangeSpec.witness6 (enc := enc) (C := Tryz.checked) false ⟨#[], #[.agg #[.int .i64 0, .slice none 0 0], .agg #[.int .i64 0, .string .empty, .int .i64 0, .slice none 0 0, .string .empty, .slice none 0 0], .int .i64 0], []⟩ 8 (by kernel_rfl) (by kernel_rfl) (by kernel_rfl) (by kernel_rfl)) ?_
  intro W base args ds gs before hval0 hW hcnd _
  have hval : ∀ (j : Nat) t v, Tryz.f3.params[j]? = some t → args[j]? = some v → Value.okWide Tryz.prog W .any base t v := hval0
  have hW' := hW
  obtain ⟨p, q, hA0, hV, rfl, hfz, hnd⟩ := hW
  have hA : DataW.TrodAll enc Tryz.prog W 0 (fun _ => true) true Tryz.f3.params.toList args.toList ds p := hA0
  rw [Tryz.params3] at hA hval
  obtain ⟨v0, vs0, d0, ds0, p0, q0, hargs, rfl, rfl, h0, r0⟩ := trodAll_cons hA
  obtain ⟨v1, vs1, d1, ds1, p1, q1, rfl, rfl, rfl, h1, r1⟩ := trodAll_cons r0
  obtain ⟨v2, vs2, d2, ds2, p2, q2, rfl, rfl, rfl, h2, r2⟩ := trodAll_cons r1
  obtain ⟨rfl, rfl, rfl⟩ := trodAll_nil r2
  obtain rfl : args = #[v0, v1, v2] := by cases args; simp_all
  obtain ⟨rfl, rfl⟩ := trodVars_none hV
  have k0 := h0
  have k1 := h1
  have lt0 : ∀ x ∈ p0, x.block < W.heap.size := by obtain ⟨m, hm⟩ := k0; exact DataW.trod_lt m _ _ _ hm
  have lt1 : ∀ x ∈ p1, x.block < W.heap.size := by obtain ⟨m, hm⟩ := k1; exact DataW.trod_lt m _ _ _ hm
  obtain ⟨f, S, ys, rfl, hB⟩ := batR_of_trod (hval 0 24 v0 rfl rfl) h0
  obtain ⟨x, rfl, hx⟩ := txn_of_trod (hval 1 30 v1 rfl rfl) h1
  obtain ⟨a2, rfl, rfl, rfl, w2⟩ := open_int Tryz.underlying3 (hval 2 3 v2 rfl rfl) h2
  clear hA0 hval0
  refine (checks_any f S ys x a2 W hB hx).mono fun e W' ⟨he, bel⟩ => ?_
  subst he
  exact ⟨_, rfl, _, _, _, [], _, [], hW', trodAll_mk1 (shut_bool Tryz.underlying4 _), (trodAll_cons_mk (Below.trod Tryz.laidOut (by kernel_rfl) (of_decide_eq_true (by kernel_rfl)) k0 bel lt0) (trodAll_cons_mk (Below.trod Tryz.laidOut (by kernel_rfl) (of_decide_eq_true (by kernel_rfl)) k1 bel lt1) (trodAll_cons_mk (shut_int Tryz.underlying3 w2) trodAll_mk0))), rfl, bel.frame _, fun h => by cases h⟩

theorem batchChecks_holds : Rows.BatchChecksSaid :=
  OpenClaim.holds_of_wide 3 Tryz.f3 rfl rfl rfl rfl rfl rfl rfl ⟨rfl, rfl, rfl, rfl, rfl⟩ rfl rfl rfl rfl rfl (by kernel_rfl) Tryz.func3 (by kernel_rfl)
    (of_decide_eq_true (by kernel_rfl)) (by unfold Func.isWrapper; first | (rw [if_pos (by decide +kernel)]; kernel_rfl) | (rw [if_neg (by decide +kernel)]; exact ⟨rfl, rfl⟩))
    (fun os started H enc _ => checks_lifted os started H enc)

#print axioms batchChecks_holds
end Go.Proofs.YtdnlfacfleemeaaGreat
