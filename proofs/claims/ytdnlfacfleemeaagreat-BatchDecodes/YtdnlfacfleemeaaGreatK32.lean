import Derived.Test.YtdnlfacfleemeaaGreatK31
namespace Go.Proofs.YtdnlfacfleemeaaGreat
open Go.RowKit Go.Lib

theorem load85 {w : World} {r : Nat} {a b c d : Value} (hb : w.heap[r]? = some (.cells #[a, b, c, d] 74 (0, 0))) : (loadVar 74 ⟨r, 0, none⟩).run Tryz.prog w = .ok (.agg #[a, b, c, d]) w := by
  obtain ⟨c0, c1, c2, c3, _⟩ := vfacts4 hb
  simp [go_sem, c0, c1, c2, c3]

theorem load28 {w : World} {r : Nat} {a b c d e f g h : Value} (hb : w.heap[r]? = some (.cells #[a, b, c, d, e, f, g, h] 53 (0, 0))) : (loadVar 53 ⟨r, 0, none⟩).run Tryz.prog w = .ok (.agg #[a, b, c, d, e, f, g, h]) w := by
  obtain ⟨c0, c1, c2, c3, c4, c5, c6, c7, _⟩ := vfacts8 hb
  simp [go_sem, c0, c1, c2, c3, c4, c5, c6, c7]

theorem ret44 {fn : Func} {p q u : Tmp} (h : fn.results = #[.cell p 74, .cell q 53, .tmp u]) {tmps : Array Value} {r s : Nat} {w : World} {a b c d : Value} {x : Ins} (ht : tmps.getD p undef = .pointer (some ⟨r, 0, none⟩)) (hs : tmps.getD q undef = .pointer (some ⟨s, 0, none⟩))
    (hb : w.heap[r]? = some (.cells #[a, b, c, d] 74 (0, 0))) (hx : w.heap[s]? = some (io x.op x.a x.b x.c x.n x.k x.i x.t)) :
    (results fn tmps).run Tryz.prog w = .ok (.tuple #[.agg #[a, b, c, d], x.val, tmps.getD u undef]) w := by
  have ht2 := ht
  have hs2 := hs
  simp only [Array.getD_eq_getD_getElem?] at ht2 hs2
  simp only [results, h]
  simp [ht2, hs2, load85 hb, load28 hx, asAddr, Ins.val]

theorem io_set8 {w : World} {r : Nat} {o a b c n k i : Int} {t : ByteArray} (h : w.heap[r]? = some (io o a b c n k i t)) (x : Ins) : (put8 w r 0 x).heap[r]? = some (io x.op x.a x.b x.c x.n x.k x.i x.t) := by
  simp [put8, World.setCell, Array.getElem?_modify, h]

/-- The four blocks of 'taken': the Reader, the instruction, and those of the answer. -/
structure Tkn (w W : World) (v : Value) (a : Nat) (e st : Int) (x : Ins) : Prop where
  r0 : W.heap[w.heap.size]? = some (.cells #[v, .int .i64 a, .int .i64 e, .int .i64 st] 74 (0, 0))
  r1 : W.heap[w.heap.size + 1]? = some (io x.op x.a x.b x.c x.n x.k x.i x.t)
  r2 : W.heap[w.heap.size + 1 + 1]? = some (.cells #[.slice none 0 0, .int .i64 0, .int .i64 0, .int .i64 0] 74 (0, 0))
  r3 : W.heap[w.heap.size + 1 + 1 + 1]? = some (io 0 0 0 0 0 0 0 emp)
  hb : Below w.heap.size w W

theorem Tkn.below {w W W' : World} {v : Value} {a : Nat} {e st : Int} {x : Ins} (h : Tkn w W v a e st x) (hb : Below W.heap.size W W') : Tkn w W' v a e st x :=
  ⟨blk_of hb h.r0 (lt_of h.r0), blk_of hb h.r1 (lt_of h.r1), blk_of hb h.r2 (lt_of h.r2), blk_of hb h.r3 (lt_of h.r3), below_on h.hb hb⟩

theorem tkn_start (w : World) (v : Value) (a : Nat) (e st : Int) (x : Ins) :
    Tkn w ((((w.alloc (.cells #[v, .int .i64 a, .int .i64 e, .int .i64 st] 74)).alloc (io x.op x.a x.b x.c x.n x.k x.i x.t)).alloc (.cells #[.slice none 0 0, .int .i64 0, .int .i64 0, .int .i64 0] 74)).alloc (io 0 0 0 0 0 0 0 emp)) v a e st x := by
  have b2 := below2 ((w.alloc (.cells #[v, .int .i64 a, .int .i64 e, .int .i64 st] 74)).alloc (io x.op x.a x.b x.c x.n x.k x.i x.t)) (.cells #[.slice none 0 0, .int .i64 0, .int .i64 0, .int .i64 0] 74) (io 0 0 0 0 0 0 0 emp)
  have h0 := two1 w (.cells #[v, .int .i64 a, .int .i64 e, .int .i64 st] 74) (io x.op x.a x.b x.c x.n x.k x.i x.t)
  have h1 := two2 w (.cells #[v, .int .i64 a, .int .i64 e, .int .i64 st] 74) (io x.op x.a x.b x.c x.n x.k x.i x.t)
  have h2 := two1 ((w.alloc (.cells #[v, .int .i64 a, .int .i64 e, .int .i64 st] 74)).alloc (io x.op x.a x.b x.c x.n x.k x.i x.t)) (.cells #[.slice none 0 0, .int .i64 0, .int .i64 0, .int .i64 0] 74) (io 0 0 0 0 0 0 0 emp)
  have h3 := two2 ((w.alloc (.cells #[v, .int .i64 a, .int .i64 e, .int .i64 st] 74)).alloc (io x.op x.a x.b x.c x.n x.k x.i x.t)) (.cells #[.slice none 0 0, .int .i64 0, .int .i64 0, .int .i64 0] 74) (io 0 0 0 0 0 0 0 emp)
  have hsz : ((w.alloc (.cells #[v, .int .i64 a, .int .i64 e, .int .i64 st] 74)).alloc (io x.op x.a x.b x.c x.n x.k x.i x.t)).heap.size = w.heap.size + 1 + 1 := by simp
  rw [hsz] at h2 h3
  exact ⟨blk_of b2 h0 (lt_of h0), blk_of b2 h1 (lt_of h1), h2, h3, below_on (below2 w _ _) b2⟩

theorem dw_cellk (W : World) (a : Addr) : W.drew.cell? a = W.cell? a := rfl
theorem cs_blkk {w : World} {p q : Nat} (h : p ≠ q) (i j : Nat) (v : Value) : (w.setCell ⟨p, i, none⟩ v).cell? ⟨q, j, none⟩ = w.cell? ⟨q, j, none⟩ := cs_other (fun e => h (by injection e))

def put4 (W : World) (q : Nat) (a b c d : Value) : World := (((W.setCell ⟨q, 0, none⟩ a).setCell ⟨q, 1, none⟩ b).setCell ⟨q, 2, none⟩ c).setCell ⟨q, 3, none⟩ d

theorem put4_kept (W : World) (q : Nat) (a b c d : Value) : Kept (fun k => k = q) W (put4 W q a b c d) :=
  ((((Kept.refl (fun k => k = q) W).setCell (p := ⟨q, 0, none⟩) (fun _ => rfl) _).setCell (p := ⟨q, 1, none⟩) (fun _ => rfl) _).setCell (p := ⟨q, 2, none⟩) (fun _ => rfl) _).setCell (p := ⟨q, 3, none⟩) (fun _ => rfl) _

/-- The Reader written over. -/
theorem Tkn.reader {w W : World} {v : Value} {a : Nat} {e st : Int} {x : Ins} (h : Tkn w W v a e st x) (v2 : Value) (a2 : Nat) (e2 st2 : Int) : Tkn w (put4 W w.heap.size v2 (.int .i64 a2) (.int .i64 e2) (.int .i64 st2)) v2 a2 e2 st2 x := by
  have k := put4_kept W w.heap.size v2 (.int .i64 a2) (.int .i64 e2) (.int .i64 st2)
  exact ⟨set4 h.r0 _ _ _ _, (k.block _ (lt_of h.r1) (by omega)).trans h.r1, (k.block _ (lt_of h.r2) (by omega)).trans h.r2, (k.block _ (lt_of h.r3) (by omega)).trans h.r3, h.hb.trans (k.below h.hb.size (fun q hq e => by omega))⟩

/-- A cell of the instruction written over. -/
theorem Tkn.cell {w W : World} {v : Value} {a : Nat} {e st : Int} {x y : Ins} (h : Tkn w W v a e st x) (o : Nat) (u : Value) (hy : (W.setCell ⟨w.heap.size + 1, o, none⟩ u).heap[w.heap.size + 1]? = some (io y.op y.a y.b y.c y.n y.k y.i y.t)) : Tkn w (W.setCell ⟨w.heap.size + 1, o, none⟩ u) v a e st y := by
  have k := (Kept.refl (fun k => k = w.heap.size + 1) W).setCell (p := ⟨w.heap.size + 1, o, none⟩) (fun _ => rfl) u
  exact ⟨(k.block _ (lt_of h.r0) (by omega)).trans h.r0, hy, (k.block _ (lt_of h.r2) (by omega)).trans h.r2, (k.block _ (lt_of h.r3) (by omega)).trans h.r3, h.hb.trans (k.below h.hb.size (fun q hq e => by omega))⟩

/-- The answer laid. -/
theorem Tkn.fin {w W : World} {v : Value} {a : Nat} {e st : Int} {x : Ins} (h : Tkn w W v a e st x) :
    (put8 (put4 W (w.heap.size + 1 + 1) v (.int .i64 a) (.int .i64 e) (.int .i64 st)) (w.heap.size + 1 + 1 + 1) 0 x).heap[w.heap.size + 1 + 1]? = some (.cells #[v, .int .i64 a, .int .i64 e, .int .i64 st] 74 (0, 0)) ∧
    (put8 (put4 W (w.heap.size + 1 + 1) v (.int .i64 a) (.int .i64 e) (.int .i64 st)) (w.heap.size + 1 + 1 + 1) 0 x).heap[w.heap.size + 1 + 1 + 1]? = some (io x.op x.a x.b x.c x.n x.k x.i x.t) ∧
    Below w.heap.size w (put8 (put4 W (w.heap.size + 1 + 1) v (.int .i64 a) (.int .i64 e) (.int .i64 st)) (w.heap.size + 1 + 1 + 1) 0 x) := by
  have k1 := put4_kept W (w.heap.size + 1 + 1) v (.int .i64 a) (.int .i64 e) (.int .i64 st)
  have k2 := put8_kept (put4 W (w.heap.size + 1 + 1) v (.int .i64 a) (.int .i64 e) (.int .i64 st)) (w.heap.size + 1 + 1 + 1) 0 x
  have h2 := set4 h.r2 v (.int .i64 a) (.int .i64 e) (.int .i64 st)
  have h3 := (k1.block _ (lt_of h.r3) (by omega)).trans h.r3
  have hb1 := h.hb.trans (k1.below h.hb.size (fun q hq e => by omega))
  exact ⟨(k2.block _ (lt_of h2) (by omega)).trans h2, io_set8 h3 x, hb1.trans (k2.below hb1.size (fun q hq e => by omega))⟩

/-- The answer's two blocks. -/
structure Tke (w W : World) (v : Value) (a : Nat) (e st : Int) (x : Ins) : Prop where
  r2 : W.heap[w.heap.size + 1 + 1]? = some (.cells #[v, .int .i64 a, .int .i64 e, .int .i64 st] 74 (0, 0))
  r3 : W.heap[w.heap.size + 1 + 1 + 1]? = some (io x.op x.a x.b x.c x.n x.k x.i x.t)
  hb : Below w.heap.size w W

theorem Tkn.ends {w W : World} {v : Value} {a : Nat} {e st : Int} {x : Ins} (h : Tkn w W v a e st x) : Tke w (put8 (put4 W (w.heap.size + 1 + 1) v (.int .i64 a) (.int .i64 e) (.int .i64 st)) (w.heap.size + 1 + 1 + 1) 0 x).drew v a e st x := by
  have hb := h.fin
  generalize put8 (put4 W (w.heap.size + 1 + 1) v (.int .i64 a) (.int .i64 e) (.int .i64 st)) (w.heap.size + 1 + 1 + 1) 0 x = Z at hb ⊢
  exact ⟨hb.1, hb.2.1, hb.2.2.os, hb.2.2.tape, hb.2.2.output, hb.2.2.size, hb.2.2.block⟩

set_option maxRecDepth 100000 in
set_option maxHeartbeats 4000000 in
theorem taken_a (ao : Option Addr) (cc : Nat) (bs : List Int) (a : Nat) (st : Int) (x : Ins) (w : World) (h : Sl w (.slice ao bs.length cc) bs) (ho : Oct bs) (hl : bs.length ≤ 1000000000) (ha : a ≤ bs.length) :
    Calls Tryz.prog 84 #[.agg #[.slice ao bs.length cc, .int .i64 a, .int .i64 0, .int .i64 st], x.val, .int .u8 65] w (TLPost (.slice ao bs.length cc) w (tkL bs 65 x a)) := by
  have HT := hid (fun W hW => rtakeByte_any (.slice ao bs.length cc) bs a 0 st W hW hl ha (fun h => absurd rfl h))
  have hbd := takeZ_bd 0 1 bs a 0 ho
  obtain ⟨⟨⟨u, us⟩, a2, e2⟩, hz⟩ : ∃ z, takeZ 0 1 bs a 0 = z := ⟨_, rfl⟩
  rw [hz] at HT hbd
  unfold RRPost at HT
  dsimp only at HT
  have hu : IntKind.i64.wrap u = u := by
    have h0 : 0 ≤ u := hbd.1
    have h1 : u < 256 := hbd.2.2.2 rfl rfl
    rw [IntKind.wrap_i64]
    omega
  have HZ := hid hz
  have HS := hid h
  have H0 := hid (tkn_start w (.slice ao bs.length cc) a 0 st x)
  unfold Ins.val
  clear h hz hbd
  go_enter Tryz.func84, Tryz.ntmps84
  go_upto_region 23 with (first
    | (go_at_call 60
       refine (HT.out _ (HS.out.below H0.out.hb)).mono ?_
       rintro e w1 ⟨st2, rfl, -, hb1⟩
       have H1 := hid (H0.out.below hb1)
       obtain ⟨p0, p1, p2, p3, pz⟩ := vfacts4 H1.out.r0
       obtain ⟨x0, x1, x2, x3, x4, x5, x6, x7, xz⟩ := vfacts8 H1.out.r1
       have n0 := lt_of H1.out.r3
       clear hb1))
  refine cutG (fun W => Tkn w W (.slice ao bs.length cc) a2 e2 st2 { x with a := u }) ((H1.out.reader (.slice ao bs.length cc) a2 e2 st2).cell 1 (.int .i64 u) (io_set1 (H1.out.reader (.slice ao bs.length cc) a2 e2 st2).r1 u)) ?_
  intro W2 H2
  have H2 := hid H2
  clear H1 H0 HT p0 p1 p2 p3 pz x0 x1 x2 x3 x4 x5 x6 x7 xz n0
  obtain ⟨p0, p1, p2, p3, pz⟩ := vfacts4 H2.out.r0
  obtain ⟨x0, x1, x2, x3, x4, x5, x6, x7, xz⟩ := vfacts8 H2.out.r1
  obtain ⟨q0, q1, q2, q3, qz⟩ := vfacts4 H2.out.r2
  obtain ⟨y0, y1, y2, y3, y4, y5, y6, y7, yz⟩ := vfacts8 H2.out.r3
  have n0 := lt_of H2.out.r3
  dsimp only at x0 x1 x2 x3 x4 x5 x6 x7
  have n1 : w.heap.size + 1 + 1 ≠ w.heap.size := by omega
  have n2 : w.heap.size + 1 + 1 ≠ w.heap.size + 1 := by omega
  have n3 : w.heap.size + 1 + 1 + 1 ≠ w.heap.size := by omega
  have n4 : w.heap.size + 1 + 1 + 1 ≠ w.heap.size + 1 := by omega
  have n5 : w.heap.size + 1 + 1 ≠ w.heap.size + 1 + 1 + 1 := by omega
  go_region_held (fun wx => (wx.cell? ⟨w.heap.size, 0, none⟩ = some (.slice ao bs.length cc) ∧ wx.cell? ⟨w.heap.size, 1, none⟩ = some (.int .i64 a2) ∧ wx.cell? ⟨w.heap.size, 2, none⟩ = some (.int .i64 e2) ∧ wx.cell? ⟨w.heap.size, 3, none⟩ = some (.int .i64 st2)) ∧ (wx.cell? ⟨w.heap.size + 1, 0, none⟩ = some (.int .i64 x.op) ∧ wx.cell? ⟨w.heap.size + 1, 1, none⟩ = some (.int .i64 u) ∧ wx.cell? ⟨w.heap.size + 1, 2, none⟩ = some (.int .i64 x.b) ∧ wx.cell? ⟨w.heap.size + 1, 3, none⟩ = some (.int .i64 x.c) ∧ wx.cell? ⟨w.heap.size + 1, 4, none⟩ = some (.int .i64 x.n) ∧ wx.cell? ⟨w.heap.size + 1, 5, none⟩ = some (.int .i64 x.k) ∧ wx.cell? ⟨w.heap.size + 1, 6, none⟩ = some (.int .i64 x.i) ∧ wx.cell? ⟨w.heap.size + 1, 7, none⟩ = some (.string x.t))) (first | go_keep | (simp only [dw_cellk, cs_blkk n1, cs_blkk n2, cs_blkk n3, cs_blkk n4, p0, p1, p2, p3, x0, x1, x2, x3, x4, x5, x6, x7, and_self]; done)) (fail)
  refine cutG (fun W => Tke w W (.slice ao bs.length cc) a2 e2 st2 { x with a := u }) H2.out.ends ?_
  intro W3 H3
  go_wp2
  refine bodyPost_ret (ret44 Tryz.results84 rfl rfl H3.r2 H3.r3) rfl ?_
  refine ⟨H3.hb, _, a2, e2, st2, e2, rfl, ?_⟩
  have hz := HZ.out
  by_cases he : e2 = 0
  · rw [show tkL bs 65 x a = .ok ({ x with a := u }, a2) by simp [tkL, hz, he]]
    exact ⟨he, rfl, rfl, he⟩
  · rw [show tkL bs 65 x a = .error e2 by simp [tkL, hz, he]]
    exact ⟨rfl, he⟩

set_option maxRecDepth 100000 in
set_option maxHeartbeats 4000000 in
theorem taken_b (ao : Option Addr) (cc : Nat) (bs : List Int) (a : Nat) (st : Int) (x : Ins) (w : World) (h : Sl w (.slice ao bs.length cc) bs) (ho : Oct bs) (hl : bs.length ≤ 1000000000) (ha : a ≤ bs.length) :
    Calls Tryz.prog 84 #[.agg #[.slice ao bs.length cc, .int .i64 a, .int .i64 0, .int .i64 st], x.val, .int .u8 66] w (TLPost (.slice ao bs.length cc) w (tkL bs 66 x a)) := by
  have HT := hid (fun W hW => rtakeByte_any (.slice ao bs.length cc) bs a 0 st W hW hl ha (fun h => absurd rfl h))
  have hbd := takeZ_bd 0 1 bs a 0 ho
  obtain ⟨⟨⟨u, us⟩, a2, e2⟩, hz⟩ : ∃ z, takeZ 0 1 bs a 0 = z := ⟨_, rfl⟩
  rw [hz] at HT hbd
  unfold RRPost at HT
  dsimp only at HT
  have hu : IntKind.i64.wrap u = u := by
    have h0 : 0 ≤ u := hbd.1
    have h1 : u < 256 := hbd.2.2.2 rfl rfl
    rw [IntKind.wrap_i64]
    omega
  have HZ := hid hz
  have HS := hid h
  have H0 := hid (tkn_start w (.slice ao bs.length cc) a 0 st x)
  unfold Ins.val
  clear h hz hbd
  go_enter Tryz.func84, Tryz.ntmps84
  go_upto_region 23 with (first
    | (go_at_call 60
       refine (HT.out _ (HS.out.below H0.out.hb)).mono ?_
       rintro e w1 ⟨st2, rfl, -, hb1⟩
       have H1 := hid (H0.out.below hb1)
       obtain ⟨p0, p1, p2, p3, pz⟩ := vfacts4 H1.out.r0
       obtain ⟨x0, x1, x2, x3, x4, x5, x6, x7, xz⟩ := vfacts8 H1.out.r1
       have n0 := lt_of H1.out.r3
       clear hb1))
  refine cutG (fun W => Tkn w W (.slice ao bs.length cc) a2 e2 st2 { x with b := u }) ((H1.out.reader (.slice ao bs.length cc) a2 e2 st2).cell 2 (.int .i64 u) (io_set2 (H1.out.reader (.slice ao bs.length cc) a2 e2 st2).r1 u)) ?_
  intro W2 H2
  have H2 := hid H2
  clear H1 H0 HT p0 p1 p2 p3 pz x0 x1 x2 x3 x4 x5 x6 x7 xz n0
  obtain ⟨p0, p1, p2, p3, pz⟩ := vfacts4 H2.out.r0
  obtain ⟨x0, x1, x2, x3, x4, x5, x6, x7, xz⟩ := vfacts8 H2.out.r1
  obtain ⟨q0, q1, q2, q3, qz⟩ := vfacts4 H2.out.r2
  obtain ⟨y0, y1, y2, y3, y4, y5, y6, y7, yz⟩ := vfacts8 H2.out.r3
  have n0 := lt_of H2.out.r3
  dsimp only at x0 x1 x2 x3 x4 x5 x6 x7
  have n1 : w.heap.size + 1 + 1 ≠ w.heap.size := by omega
  have n2 : w.heap.size + 1 + 1 ≠ w.heap.size + 1 := by omega
  have n3 : w.heap.size + 1 + 1 + 1 ≠ w.heap.size := by omega
  have n4 : w.heap.size + 1 + 1 + 1 ≠ w.heap.size + 1 := by omega
  have n5 : w.heap.size + 1 + 1 ≠ w.heap.size + 1 + 1 + 1 := by omega
  go_region_held (fun wx => (wx.cell? ⟨w.heap.size, 0, none⟩ = some (.slice ao bs.length cc) ∧ wx.cell? ⟨w.heap.size, 1, none⟩ = some (.int .i64 a2) ∧ wx.cell? ⟨w.heap.size, 2, none⟩ = some (.int .i64 e2) ∧ wx.cell? ⟨w.heap.size, 3, none⟩ = some (.int .i64 st2)) ∧ (wx.cell? ⟨w.heap.size + 1, 0, none⟩ = some (.int .i64 x.op) ∧ wx.cell? ⟨w.heap.size + 1, 1, none⟩ = some (.int .i64 x.a) ∧ wx.cell? ⟨w.heap.size + 1, 2, none⟩ = some (.int .i64 u) ∧ wx.cell? ⟨w.heap.size + 1, 3, none⟩ = some (.int .i64 x.c) ∧ wx.cell? ⟨w.heap.size + 1, 4, none⟩ = some (.int .i64 x.n) ∧ wx.cell? ⟨w.heap.size + 1, 5, none⟩ = some (.int .i64 x.k) ∧ wx.cell? ⟨w.heap.size + 1, 6, none⟩ = some (.int .i64 x.i) ∧ wx.cell? ⟨w.heap.size + 1, 7, none⟩ = some (.string x.t))) (first | go_keep | (simp only [dw_cellk, cs_blkk n1, cs_blkk n2, cs_blkk n3, cs_blkk n4, p0, p1, p2, p3, x0, x1, x2, x3, x4, x5, x6, x7, and_self]; done)) (fail)
  refine cutG (fun W => Tke w W (.slice ao bs.length cc) a2 e2 st2 { x with b := u }) H2.out.ends ?_
  intro W3 H3
  go_wp2
  refine bodyPost_ret (ret44 Tryz.results84 rfl rfl H3.r2 H3.r3) rfl ?_
  refine ⟨H3.hb, _, a2, e2, st2, e2, rfl, ?_⟩
  have hz := HZ.out
  by_cases he : e2 = 0
  · rw [show tkL bs 66 x a = .ok ({ x with b := u }, a2) by simp [tkL, hz, he]]
    exact ⟨he, rfl, rfl, he⟩
  · rw [show tkL bs 66 x a = .error e2 by simp [tkL, hz, he]]
    exact ⟨rfl, he⟩

set_option maxRecDepth 100000 in
set_option maxHeartbeats 4000000 in
theorem taken_c (ao : Option Addr) (cc : Nat) (bs : List Int) (a : Nat) (st : Int) (x : Ins) (w : World) (h : Sl w (.slice ao bs.length cc) bs) (ho : Oct bs) (hl : bs.length ≤ 1000000000) (ha : a ≤ bs.length) :
    Calls Tryz.prog 84 #[.agg #[.slice ao bs.length cc, .int .i64 a, .int .i64 0, .int .i64 st], x.val, .int .u8 67] w (TLPost (.slice ao bs.length cc) w (tkL bs 67 x a)) := by
  have HT := hid (fun W hW => rtakeByte_any (.slice ao bs.length cc) bs a 0 st W hW hl ha (fun h => absurd rfl h))
  have hbd := takeZ_bd 0 1 bs a 0 ho
  obtain ⟨⟨⟨u, us⟩, a2, e2⟩, hz⟩ : ∃ z, takeZ 0 1 bs a 0 = z := ⟨_, rfl⟩
  rw [hz] at HT hbd
  unfold RRPost at HT
  dsimp only at HT
  have hu : IntKind.i64.wrap u = u := by
    have h0 : 0 ≤ u := hbd.1
    have h1 : u < 256 := hbd.2.2.2 rfl rfl
    rw [IntKind.wrap_i64]
    omega
  have HZ := hid hz
  have HS := hid h
  have H0 := hid (tkn_start w (.slice ao bs.length cc) a 0 st x)
  unfold Ins.val
  clear h hz hbd
  go_enter Tryz.func84, Tryz.ntmps84
  go_upto_region 23 with (first
    | (go_at_call 60
       refine (HT.out _ (HS.out.below H0.out.hb)).mono ?_
       rintro e w1 ⟨st2, rfl, -, hb1⟩
       have H1 := hid (H0.out.below hb1)
       obtain ⟨p0, p1, p2, p3, pz⟩ := vfacts4 H1.out.r0
       obtain ⟨x0, x1, x2, x3, x4, x5, x6, x7, xz⟩ := vfacts8 H1.out.r1
       have n0 := lt_of H1.out.r3
       clear hb1))
  refine cutG (fun W => Tkn w W (.slice ao bs.length cc) a2 e2 st2 { x with c := u }) ((H1.out.reader (.slice ao bs.length cc) a2 e2 st2).cell 3 (.int .i64 u) (io_set3 (H1.out.reader (.slice ao bs.length cc) a2 e2 st2).r1 u)) ?_
  intro W2 H2
  have H2 := hid H2
  clear H1 H0 HT p0 p1 p2 p3 pz x0 x1 x2 x3 x4 x5 x6 x7 xz n0
  obtain ⟨p0, p1, p2, p3, pz⟩ := vfacts4 H2.out.r0
  obtain ⟨x0, x1, x2, x3, x4, x5, x6, x7, xz⟩ := vfacts8 H2.out.r1
  obtain ⟨q0, q1, q2, q3, qz⟩ := vfacts4 H2.out.r2
  obtain ⟨y0, y1, y2, y3, y4, y5, y6, y7, yz⟩ := vfacts8 H2.out.r3
  have n0 := lt_of H2.out.r3
  dsimp only at x0 x1 x2 x3 x4 x5 x6 x7
  have n1 : w.heap.size + 1 + 1 ≠ w.heap.size := by omega
  have n2 : w.heap.size + 1 + 1 ≠ w.heap.size + 1 := by omega
  have n3 : w.heap.size + 1 + 1 + 1 ≠ w.heap.size := by omega
  have n4 : w.heap.size + 1 + 1 + 1 ≠ w.heap.size + 1 := by omega
  have n5 : w.heap.size + 1 + 1 ≠ w.heap.size + 1 + 1 + 1 := by omega
  go_region_held (fun wx => (wx.cell? ⟨w.heap.size, 0, none⟩ = some (.slice ao bs.length cc) ∧ wx.cell? ⟨w.heap.size, 1, none⟩ = some (.int .i64 a2) ∧ wx.cell? ⟨w.heap.size, 2, none⟩ = some (.int .i64 e2) ∧ wx.cell? ⟨w.heap.size, 3, none⟩ = some (.int .i64 st2)) ∧ (wx.cell? ⟨w.heap.size + 1, 0, none⟩ = some (.int .i64 x.op) ∧ wx.cell? ⟨w.heap.size + 1, 1, none⟩ = some (.int .i64 x.a) ∧ wx.cell? ⟨w.heap.size + 1, 2, none⟩ = some (.int .i64 x.b) ∧ wx.cell? ⟨w.heap.size + 1, 3, none⟩ = some (.int .i64 u) ∧ wx.cell? ⟨w.heap.size + 1, 4, none⟩ = some (.int .i64 x.n) ∧ wx.cell? ⟨w.heap.size + 1, 5, none⟩ = some (.int .i64 x.k) ∧ wx.cell? ⟨w.heap.size + 1, 6, none⟩ = some (.int .i64 x.i) ∧ wx.cell? ⟨w.heap.size + 1, 7, none⟩ = some (.string x.t))) (first | go_keep | (simp only [dw_cellk, cs_blkk n1, cs_blkk n2, cs_blkk n3, cs_blkk n4, p0, p1, p2, p3, x0, x1, x2, x3, x4, x5, x6, x7, and_self]; done)) (fail)
  refine cutG (fun W => Tke w W (.slice ao bs.length cc) a2 e2 st2 { x with c := u }) H2.out.ends ?_
  intro W3 H3
  go_wp2
  refine bodyPost_ret (ret44 Tryz.results84 rfl rfl H3.r2 H3.r3) rfl ?_
  refine ⟨H3.hb, _, a2, e2, st2, e2, rfl, ?_⟩
  have hz := HZ.out
  by_cases he : e2 = 0
  · rw [show tkL bs 67 x a = .ok ({ x with c := u }, a2) by simp [tkL, hz, he]]
    exact ⟨he, rfl, rfl, he⟩
  · rw [show tkL bs 67 x a = .error e2 by simp [tkL, hz, he]]
    exact ⟨rfl, he⟩

set_option maxRecDepth 100000 in
set_option maxHeartbeats 4000000 in
theorem taken_s (ao : Option Addr) (cc : Nat) (bs : List Int) (a : Nat) (st : Int) (x : Ins) (w : World) (h : Sl w (.slice ao bs.length cc) bs) (ho : Oct bs) (hl : bs.length ≤ 1000000000) (ha : a ≤ bs.length) :
    Calls Tryz.prog 84 #[.agg #[.slice ao bs.length cc, .int .i64 a, .int .i64 0, .int .i64 st], x.val, .int .u8 97] w (TLPost (.slice ao bs.length cc) w (tkL bs 97 x a)) := by
  have HT := hid (fun W hW => rtakeNum_any (.slice ao bs.length cc) bs a 0 st W hW ho hl ha (fun h => absurd rfl h))
  have hbd := takeZ_bd 1 0 bs a 0 ho
  obtain ⟨⟨⟨u, us⟩, a2, e2⟩, hz⟩ : ∃ z, takeZ 1 0 bs a 0 = z := ⟨_, rfl⟩
  rw [hz] at HT hbd
  unfold RRPost at HT
  dsimp only at HT
  have HZ := hid hz
  have HS := hid h
  have H0 := hid (tkn_start w (.slice ao bs.length cc) a 0 st x)
  unfold Ins.val
  clear h hz hbd
  go_enter Tryz.func84, Tryz.ntmps84
  go_upto_region 23 with (first
    | (go_at_call 30
       refine (HT.out _ (HS.out.below H0.out.hb)).mono ?_
       rintro e w1 ⟨st2, rfl, -, hb1⟩
       have H1 := hid (H0.out.below hb1)
       obtain ⟨p0, p1, p2, p3, pz⟩ := vfacts4 H1.out.r0
       obtain ⟨x0, x1, x2, x3, x4, x5, x6, x7, xz⟩ := vfacts8 H1.out.r1
       have n0 := lt_of H1.out.r3
       clear hb1))
  refine cutG (fun W => Tkn w W (.slice ao bs.length cc) a2 e2 st2 { x with a := u }) ((H1.out.cell 1 (.int .i64 u) (io_set1 H1.out.r1 u)).reader (.slice ao bs.length cc) a2 e2 st2) ?_
  intro W2 H2
  have H2 := hid H2
  clear H1 H0 HT p0 p1 p2 p3 pz x0 x1 x2 x3 x4 x5 x6 x7 xz n0
  obtain ⟨p0, p1, p2, p3, pz⟩ := vfacts4 H2.out.r0
  obtain ⟨x0, x1, x2, x3, x4, x5, x6, x7, xz⟩ := vfacts8 H2.out.r1
  obtain ⟨q0, q1, q2, q3, qz⟩ := vfacts4 H2.out.r2
  obtain ⟨y0, y1, y2, y3, y4, y5, y6, y7, yz⟩ := vfacts8 H2.out.r3
  have n0 := lt_of H2.out.r3
  dsimp only at x0 x1 x2 x3 x4 x5 x6 x7
  have n1 : w.heap.size + 1 + 1 ≠ w.heap.size := by omega
  have n2 : w.heap.size + 1 + 1 ≠ w.heap.size + 1 := by omega
  have n3 : w.heap.size + 1 + 1 + 1 ≠ w.heap.size := by omega
  have n4 : w.heap.size + 1 + 1 + 1 ≠ w.heap.size + 1 := by omega
  have n5 : w.heap.size + 1 + 1 ≠ w.heap.size + 1 + 1 + 1 := by omega
  go_region_held (fun wx => (wx.cell? ⟨w.heap.size, 0, none⟩ = some (.slice ao bs.length cc) ∧ wx.cell? ⟨w.heap.size, 1, none⟩ = some (.int .i64 a2) ∧ wx.cell? ⟨w.heap.size, 2, none⟩ = some (.int .i64 e2) ∧ wx.cell? ⟨w.heap.size, 3, none⟩ = some (.int .i64 st2)) ∧ (wx.cell? ⟨w.heap.size + 1, 0, none⟩ = some (.int .i64 x.op) ∧ wx.cell? ⟨w.heap.size + 1, 1, none⟩ = some (.int .i64 u) ∧ wx.cell? ⟨w.heap.size + 1, 2, none⟩ = some (.int .i64 x.b) ∧ wx.cell? ⟨w.heap.size + 1, 3, none⟩ = some (.int .i64 x.c) ∧ wx.cell? ⟨w.heap.size + 1, 4, none⟩ = some (.int .i64 x.n) ∧ wx.cell? ⟨w.heap.size + 1, 5, none⟩ = some (.int .i64 x.k) ∧ wx.cell? ⟨w.heap.size + 1, 6, none⟩ = some (.int .i64 x.i) ∧ wx.cell? ⟨w.heap.size + 1, 7, none⟩ = some (.string x.t))) (first | go_keep | (simp only [dw_cellk, cs_blkk n1, cs_blkk n2, cs_blkk n3, cs_blkk n4, p0, p1, p2, p3, x0, x1, x2, x3, x4, x5, x6, x7, and_self]; done)) (fail)
  refine cutG (fun W => Tke w W (.slice ao bs.length cc) a2 e2 st2 { x with a := u }) H2.out.ends ?_
  intro W3 H3
  go_wp2
  refine bodyPost_ret (ret44 Tryz.results84 rfl rfl H3.r2 H3.r3) rfl ?_
  refine ⟨H3.hb, _, a2, e2, st2, e2, rfl, ?_⟩
  have hz := HZ.out
  by_cases he : e2 = 0
  · rw [show tkL bs 97 x a = .ok ({ x with a := u }, a2) by simp [tkL, hz, he]]
    exact ⟨he, rfl, rfl, he⟩
  · rw [show tkL bs 97 x a = .error e2 by simp [tkL, hz, he]]
    exact ⟨rfl, he⟩

set_option maxRecDepth 100000 in
set_option maxHeartbeats 4000000 in
theorem taken_n (ao : Option Addr) (cc : Nat) (bs : List Int) (a : Nat) (st : Int) (x : Ins) (w : World) (h : Sl w (.slice ao bs.length cc) bs) (ho : Oct bs) (hl : bs.length ≤ 1000000000) (ha : a ≤ bs.length) :
    Calls Tryz.prog 84 #[.agg #[.slice ao bs.length cc, .int .i64 a, .int .i64 0, .int .i64 st], x.val, .int .u8 78] w (TLPost (.slice ao bs.length cc) w (tkL bs 78 x a)) := by
  have HT := hid (fun W hW => rtakeNum_any (.slice ao bs.length cc) bs a 0 st W hW ho hl ha (fun h => absurd rfl h))
  have hbd := takeZ_bd 1 0 bs a 0 ho
  obtain ⟨⟨⟨u, us⟩, a2, e2⟩, hz⟩ : ∃ z, takeZ 1 0 bs a 0 = z := ⟨_, rfl⟩
  rw [hz] at HT hbd
  unfold RRPost at HT
  dsimp only at HT
  have HZ := hid hz
  have HS := hid h
  have H0 := hid (tkn_start w (.slice ao bs.length cc) a 0 st x)
  unfold Ins.val
  clear h hz hbd
  go_enter Tryz.func84, Tryz.ntmps84
  go_upto_region 23 with (first
    | (go_at_call 30
       refine (HT.out _ (HS.out.below H0.out.hb)).mono ?_
       rintro e w1 ⟨st2, rfl, -, hb1⟩
       have H1 := hid (H0.out.below hb1)
       obtain ⟨p0, p1, p2, p3, pz⟩ := vfacts4 H1.out.r0
       obtain ⟨x0, x1, x2, x3, x4, x5, x6, x7, xz⟩ := vfacts8 H1.out.r1
       have n0 := lt_of H1.out.r3
       clear hb1))
  refine cutG (fun W => Tkn w W (.slice ao bs.length cc) a2 e2 st2 { x with n := u }) ((H1.out.cell 4 (.int .i64 u) (io_set4 H1.out.r1 u)).reader (.slice ao bs.length cc) a2 e2 st2) ?_
  intro W2 H2
  have H2 := hid H2
  clear H1 H0 HT p0 p1 p2 p3 pz x0 x1 x2 x3 x4 x5 x6 x7 xz n0
  obtain ⟨p0, p1, p2, p3, pz⟩ := vfacts4 H2.out.r0
  obtain ⟨x0, x1, x2, x3, x4, x5, x6, x7, xz⟩ := vfacts8 H2.out.r1
  obtain ⟨q0, q1, q2, q3, qz⟩ := vfacts4 H2.out.r2
  obtain ⟨y0, y1, y2, y3, y4, y5, y6, y7, yz⟩ := vfacts8 H2.out.r3
  have n0 := lt_of H2.out.r3
  dsimp only at x0 x1 x2 x3 x4 x5 x6 x7
  have n1 : w.heap.size + 1 + 1 ≠ w.heap.size := by omega
  have n2 : w.heap.size + 1 + 1 ≠ w.heap.size + 1 := by omega
  have n3 : w.heap.size + 1 + 1 + 1 ≠ w.heap.size := by omega
  have n4 : w.heap.size + 1 + 1 + 1 ≠ w.heap.size + 1 := by omega
  have n5 : w.heap.size + 1 + 1 ≠ w.heap.size + 1 + 1 + 1 := by omega
  go_region_held (fun wx => (wx.cell? ⟨w.heap.size, 0, none⟩ = some (.slice ao bs.length cc) ∧ wx.cell? ⟨w.heap.size, 1, none⟩ = some (.int .i64 a2) ∧ wx.cell? ⟨w.heap.size, 2, none⟩ = some (.int .i64 e2) ∧ wx.cell? ⟨w.heap.size, 3, none⟩ = some (.int .i64 st2)) ∧ (wx.cell? ⟨w.heap.size + 1, 0, none⟩ = some (.int .i64 x.op) ∧ wx.cell? ⟨w.heap.size + 1, 1, none⟩ = some (.int .i64 x.a) ∧ wx.cell? ⟨w.heap.size + 1, 2, none⟩ = some (.int .i64 x.b) ∧ wx.cell? ⟨w.heap.size + 1, 3, none⟩ = some (.int .i64 x.c) ∧ wx.cell? ⟨w.heap.size + 1, 4, none⟩ = some (.int .i64 u) ∧ wx.cell? ⟨w.heap.size + 1, 5, none⟩ = some (.int .i64 x.k) ∧ wx.cell? ⟨w.heap.size + 1, 6, none⟩ = some (.int .i64 x.i) ∧ wx.cell? ⟨w.heap.size + 1, 7, none⟩ = some (.string x.t))) (first | go_keep | (simp only [dw_cellk, cs_blkk n1, cs_blkk n2, cs_blkk n3, cs_blkk n4, p0, p1, p2, p3, x0, x1, x2, x3, x4, x5, x6, x7, and_self]; done)) (fail)
  refine cutG (fun W => Tke w W (.slice ao bs.length cc) a2 e2 st2 { x with n := u }) H2.out.ends ?_
  intro W3 H3
  go_wp2
  refine bodyPost_ret (ret44 Tryz.results84 rfl rfl H3.r2 H3.r3) rfl ?_
  refine ⟨H3.hb, _, a2, e2, st2, e2, rfl, ?_⟩
  have hz := HZ.out
  by_cases he : e2 = 0
  · rw [show tkL bs 78 x a = .ok ({ x with n := u }, a2) by simp [tkL, hz, he]]
    exact ⟨he, rfl, rfl, he⟩
  · rw [show tkL bs 78 x a = .error e2 by simp [tkL, hz, he]]
    exact ⟨rfl, he⟩

end Go.Proofs.YtdnlfacfleemeaaGreat

namespace Go.Proofs.YtdnlfacfleemeaaGreat
open Go.RowKit Go.Lib

theorem io_set5 {w : World} {r : Nat} {o a b c n k i : Int} {t : ByteArray} (h : w.heap[r]? = some (io o a b c n k i t)) (v : Int) : (w.setCell ⟨r, 5, none⟩ (.int .i64 v)).heap[r]? = some (io o a b c n v i t) := by
  simp [World.setCell, Array.getElem?_modify, h]
theorem io_set6 {w : World} {r : Nat} {o a b c n k i : Int} {t : ByteArray} (h : w.heap[r]? = some (io o a b c n k i t)) (v : Int) : (w.setCell ⟨r, 6, none⟩ (.int .i64 v)).heap[r]? = some (io o a b c n k v t) := by
  simp [World.setCell, Array.getElem?_modify, h]
theorem io_set7 {w : World} {r : Nat} {o a b c n k i : Int} {t : ByteArray} (h : w.heap[r]? = some (io o a b c n k i t)) (v : ByteArray) : (w.setCell ⟨r, 7, none⟩ (.string v)).heap[r]? = some (io o a b c n k i v) := by
  simp [World.setCell, Array.getElem?_modify, h]

theorem tkn_val {w W : World} {v : Value} {a : Nat} {e st : Int} {x : Ins} (h : Tkn w W v a e st x) (K I : Int) (T : ByteArray) :
    Tkn w (((W.setCell ⟨w.heap.size + 1, 5, none⟩ (.int .i64 K)).setCell ⟨w.heap.size + 1, 6, none⟩ (.int .i64 I)).setCell ⟨w.heap.size + 1, 7, none⟩ (.string T)) v a e st { x with k := K, i := I, t := T } := by
  have h1 := h.cell (y := { x with k := K }) 5 (.int .i64 K) (io_set5 h.r1 K)
  have h2 := h1.cell (y := { x with k := K, i := I }) 6 (.int .i64 I) (io_set6 h1.r1 I)
  exact h2.cell (y := { x with k := K, i := I, t := T }) 7 (.string T) (io_set7 h2.r1 T)

theorem dec_letters (bs us : List Int) (x : Ins) (a : Nat) (u : Int) (a2 : Nat) (hz : takeZ 3 (bs.length : Int) bs a 0 = ((u, us), a2, 0)) :
    ∃ K I T E, decV (decZ us) = .tuple #[vl K I T, .int .i64 E] ∧ tkL bs 86 x a = if E = 0 then .ok ({ x with k := K, i := I, t := T }, a2) else .error E := by
  have hL : tkL bs 86 x a = match tkVal bs bs.length a with
      | .error E => .error E
      | .ok (d, a3) => .ok ({ x with k := d.1, i := d.2.1, t := mkStr d.2.2 }, a3) := by
    unfold tkL
    simp only [show ¬ (86 : Int) = 65 by decide, show ¬ (86 : Int) = 66 by decide, show ¬ (86 : Int) = 67 by decide, show ¬ (86 : Int) = 97 by decide, show ¬ (86 : Int) = 78 by decide, if_false, if_true]
    cases tkVal bs bs.length a with
    | error E => rfl
    | ok d => rfl
  rw [hL, tkVal, hz]
  dsimp only
  rw [if_pos rfl]
  by_cases hd : (decZ us).2 = 0
  · exact ⟨(decZ us).1.1, (decZ us).1.2.1, mkStr (decZ us).1.2.2, 0, by rw [decV, if_pos hd], by rw [if_pos hd, if_pos rfl]⟩
  · exact ⟨0, 0, emp, (decZ us).2, by rw [decV, if_neg hd], by rw [if_neg hd, if_neg hd]⟩

set_option maxRecDepth 100000 in
set_option maxHeartbeats 4000000 in
theorem taken_v (ao : Option Addr) (cc : Nat) (bs : List Int) (a : Nat) (st : Int) (x : Ins) (w : World) (h : Sl w (.slice ao bs.length cc) bs) (ho : Oct bs) (hl : bs.length ≤ 1000000000) (ha : a ≤ bs.length) :
    Calls Tryz.prog 84 #[.agg #[.slice ao bs.length cc, .int .i64 a, .int .i64 0, .int .i64 st], x.val, .int .u8 86] w (TLPost (.slice ao bs.length cc) w (tkL bs 86 x a)) := by
  have HT := hid (fun W hW => rtakeText_any (.slice ao bs.length cc) bs a 0 st (bs.length : Int) W hW ho hl ha (fun h => absurd rfl h) (by omega) (by omega))
  have hoc := takeZ_oct3 (bs.length : Int) bs a ho
  obtain ⟨⟨⟨u, us⟩, a2, e2⟩, hz⟩ : ∃ z, takeZ 3 (bs.length : Int) bs a 0 = z := ⟨_, rfl⟩
  rw [hz] at HT hoc
  unfold RRPost at HT
  dsimp only at HT hoc
  have HZ := hid hz
  have HO := hid hoc
  have HS := hid h
  have H0 := hid (tkn_start w (.slice ao bs.length cc) a 0 st x)
  unfold Ins.val
  clear h hz hoc
  go_enter Tryz.func84, Tryz.ntmps84
  go_upto_region 19 with (first
    | (go_at_call 61
       refine (HT.out _ (HS.out.below H0.out.hb)).mono ?_
       rintro e w1 ⟨st2, rfl, -, hb1⟩
       have H1 := hid (H0.out.below hb1)
       obtain ⟨p0, p1, p2, p3, pz⟩ := vfacts4 H1.out.r0
       obtain ⟨x0, x1, x2, x3, x4, x5, x6, x7, xz⟩ := vfacts8 H1.out.r1
       have n0 := lt_of H1.out.r3
       clear hb1))
  refine cutG (fun W => Tkn w W (.slice ao bs.length cc) a2 e2 st2 x) (H1.out.reader (.slice ao bs.length cc) a2 e2 st2) ?_
  intro W2 H2
  have H2 := hid H2
  clear H1 H0 HT p0 p1 p2 p3 pz x0 x1 x2 x3 x4 x5 x6 x7 xz n0 HS
  by_cases he : e2 = 0
  · subst he
    obtain ⟨v3, W3, hcv, hsl, hb3⟩ := conv_bytes W2 (mkStr us)
    rw [strBs_mkStr us HO.out.1] at hsl
    have H3 := hid (H2.out.below hb3)
    have HD := hid (rdecode_any v3 us W3 hsl HO.out.1 (by have := HO.out.2; omega))
    obtain ⟨K, I, T, E, hd, hE⟩ : ∃ K I T E, decV (decZ us) = .tuple #[vl K I T, .int .i64 E] ∧ tkL bs 86 x a = if E = 0 then .ok ({ x with k := K, i := I, t := T }, a2) else .error E := dec_letters bs us x a u a2 HZ.out
    rw [hd] at HD
    have HE := hid hE
    obtain ⟨p0, p1, p2, p3, pz⟩ := vfacts4 H2.out.r0
    clear hb3 hsl hd hE
    go_upto_region 25 with (first
      | (go_at_call 63
         refine HD.out.mono ?_
         rintro e w4 ⟨rfl, hb4⟩
         have H4 := hid (H3.out.below hb4)
         obtain ⟨x0, x1, x2, x3, x4, x5, x6, x7, xz⟩ := vfacts8 H4.out.r1
         have n0 := lt_of H4.out.r3
         have nx1 : w.heap.size + 1 < w4.heap.size := by omega
         have nx2 : w.heap.size + 1 ≠ w4.heap.size := by omega
         have nx3 : w4.heap.size ≠ w.heap.size + 1 := by omega
         clear hb4))
    refine cutG (fun W => Tkn w W (.slice ao bs.length cc) a2 0 st2 { x with k := K, i := I, t := T }) ((tkn_val H4.out K I T).below (below1 _ _)) ?_
    intro W5 HW
    have HW := hid HW
    clear H4 H3 H2 HD nx1 nx2 nx3 x0 x1 x2 x3 x4 x5 x6 x7 xz n0 p0 p1 p2 p3 pz hcv
    obtain ⟨p0, p1, p2, p3, pz⟩ := vfacts4 HW.out.r0
    obtain ⟨x0, x1, x2, x3, x4, x5, x6, x7, xz⟩ := vfacts8 HW.out.r1
    obtain ⟨q0, q1, q2, q3, qz⟩ := vfacts4 HW.out.r2
    obtain ⟨y0, y1, y2, y3, y4, y5, y6, y7, yz⟩ := vfacts8 HW.out.r3
    have n0 := lt_of HW.out.r3
    dsimp only at x0 x1 x2 x3 x4 x5 x6 x7
    have n1 : w.heap.size + 1 + 1 ≠ w.heap.size := by omega
    have n2 : w.heap.size + 1 + 1 ≠ w.heap.size + 1 := by omega
    have n3 : w.heap.size + 1 + 1 + 1 ≠ w.heap.size := by omega
    have n4 : w.heap.size + 1 + 1 + 1 ≠ w.heap.size + 1 := by omega
    have n5 : w.heap.size + 1 + 1 ≠ w.heap.size + 1 + 1 + 1 := by omega
    go_region_held (fun wx => (wx.cell? ⟨w.heap.size, 0, none⟩ = some (.slice ao bs.length cc) ∧ wx.cell? ⟨w.heap.size, 1, none⟩ = some (.int .i64 a2) ∧ wx.cell? ⟨w.heap.size, 2, none⟩ = some (.int .i64 0) ∧ wx.cell? ⟨w.heap.size, 3, none⟩ = some (.int .i64 st2)) ∧ (wx.cell? ⟨w.heap.size + 1, 0, none⟩ = some (.int .i64 x.op) ∧ wx.cell? ⟨w.heap.size + 1, 1, none⟩ = some (.int .i64 x.a) ∧ wx.cell? ⟨w.heap.size + 1, 2, none⟩ = some (.int .i64 x.b) ∧ wx.cell? ⟨w.heap.size + 1, 3, none⟩ = some (.int .i64 x.c) ∧ wx.cell? ⟨w.heap.size + 1, 4, none⟩ = some (.int .i64 x.n) ∧ wx.cell? ⟨w.heap.size + 1, 5, none⟩ = some (.int .i64 K) ∧ wx.cell? ⟨w.heap.size + 1, 6, none⟩ = some (.int .i64 I) ∧ wx.cell? ⟨w.heap.size + 1, 7, none⟩ = some (.string T))) (first | go_keep | (simp only [dw_cellk, cs_blkk n1, cs_blkk n2, cs_blkk n3, cs_blkk n4, p0, p1, p2, p3, x0, x1, x2, x3, x4, x5, x6, x7, and_self]; done)) (fail)
    refine cutG (fun W => Tke w W (.slice ao bs.length cc) a2 0 st2 { x with k := K, i := I, t := T }) HW.out.ends ?_
    intro W6 H6
    go_wp2
    refine bodyPost_ret (ret44 Tryz.results84 rfl rfl H6.r2 H6.r3) rfl ?_
    refine ⟨H6.hb, _, a2, 0, st2, E, rfl, ?_⟩
    rw [HE.out]
    by_cases hE0 : E = 0
    · rw [if_pos hE0]
      exact ⟨hE0, rfl, rfl, rfl⟩
    · rw [if_neg hE0]
      exact ⟨rfl, hE0⟩
  · have he2 : (e2 == 0) = false := by simpa using he
    have HN := hid he
    have HW := H2
    clear he H2
    obtain ⟨p0, p1, p2, p3, pz⟩ := vfacts4 HW.out.r0
    obtain ⟨x0, x1, x2, x3, x4, x5, x6, x7, xz⟩ := vfacts8 HW.out.r1
    obtain ⟨q0, q1, q2, q3, qz⟩ := vfacts4 HW.out.r2
    obtain ⟨y0, y1, y2, y3, y4, y5, y6, y7, yz⟩ := vfacts8 HW.out.r3
    have n0 := lt_of HW.out.r3
    have n1 : w.heap.size + 1 + 1 ≠ w.heap.size := by omega
    have n2 : w.heap.size + 1 + 1 ≠ w.heap.size + 1 := by omega
    have n3 : w.heap.size + 1 + 1 + 1 ≠ w.heap.size := by omega
    have n4 : w.heap.size + 1 + 1 + 1 ≠ w.heap.size + 1 := by omega
    have n5 : w.heap.size + 1 + 1 ≠ w.heap.size + 1 + 1 + 1 := by omega
    go_upto_region 23 with fail
    go_region_held (fun wx => (wx.cell? ⟨w.heap.size, 0, none⟩ = some (.slice ao bs.length cc) ∧ wx.cell? ⟨w.heap.size, 1, none⟩ = some (.int .i64 a2) ∧ wx.cell? ⟨w.heap.size, 2, none⟩ = some (.int .i64 e2) ∧ wx.cell? ⟨w.heap.size, 3, none⟩ = some (.int .i64 st2)) ∧ (wx.cell? ⟨w.heap.size + 1, 0, none⟩ = some (.int .i64 x.op) ∧ wx.cell? ⟨w.heap.size + 1, 1, none⟩ = some (.int .i64 x.a) ∧ wx.cell? ⟨w.heap.size + 1, 2, none⟩ = some (.int .i64 x.b) ∧ wx.cell? ⟨w.heap.size + 1, 3, none⟩ = some (.int .i64 x.c) ∧ wx.cell? ⟨w.heap.size + 1, 4, none⟩ = some (.int .i64 x.n) ∧ wx.cell? ⟨w.heap.size + 1, 5, none⟩ = some (.int .i64 x.k) ∧ wx.cell? ⟨w.heap.size + 1, 6, none⟩ = some (.int .i64 x.i) ∧ wx.cell? ⟨w.heap.size + 1, 7, none⟩ = some (.string x.t))) (first | go_keep | (simp only [dw_cellk, cs_blkk n1, cs_blkk n2, cs_blkk n3, cs_blkk n4, p0, p1, p2, p3, x0, x1, x2, x3, x4, x5, x6, x7, and_self]; done)) (fail)
    refine cutG (fun W => Tke w W (.slice ao bs.length cc) a2 e2 st2 x) HW.out.ends ?_
    intro W6 H6
    go_wp2
    refine bodyPost_ret (ret44 Tryz.results84 rfl rfl H6.r2 H6.r3) rfl ?_
    refine ⟨H6.hb, _, a2, e2, st2, e2, rfl, ?_⟩
    rw [show tkL bs 86 x a = .error e2 by
      unfold tkL
      simp only [show ¬ (86 : Int) = 65 by decide, show ¬ (86 : Int) = 66 by decide, show ¬ (86 : Int) = 67 by decide, show ¬ (86 : Int) = 97 by decide, show ¬ (86 : Int) = 78 by decide, if_false, if_true, tkVal, HZ.out, if_neg HN.out]]
    exact ⟨rfl, HN.out⟩

end Go.Proofs.YtdnlfacfleemeaaGreat
