import Derived.Test.YtdnlfacfleemeaaGreatK33
import Derived.Test.YtdnlfacfleemeaaGreatK38
import Derived.Test.YtdnlfacfleemeaaGreatK36
namespace Go.Proofs.YtdnlfacfleemeaaGreat
open Go.RowKit Go.Lib

/-- The lists of a transaction, in blocks that bear their types. -/
structure El (w : World) (t : Txd) (S1 S2 : Value) : Prop where
  c : CdAt 0 w S1 t.xs
  v : VsAt 0 w S2 t.vs
  tc : Ty 53 w S1
  tv : Ty 51 w S2

theorem El.kept {w w' : World} {t : Txd} {S1 S2 : Value} {P : Nat → Prop} (h : El w t S1 S2) (hk : Kept P w w') (hn : ∀ (k : Nat) (cur : Array Value) (e : TypeId), w.heap[k]? = some (.cells cur e (0, 0)) → e = 53 ∨ e = 51 → ¬ P k) : El w' t S1 S2 := by
  have h1 : ∀ k, S1.ownBlock = some k → ¬ P k := fun k hk => by obtain ⟨cur, hc⟩ := h.tc k hk; exact hn k cur 53 hc (.inl rfl)
  have h2 : ∀ k, S2.ownBlock = some k → ¬ P k := fun k hk => by obtain ⟨cur, hc⟩ := h.tv k hk; exact hn k cur 51 hc (.inr rfl)
  refine ⟨?_, ?_, h.tc.kept hk h1, h.tv.kept hk h2⟩
  · obtain ⟨ao, cap, rfl, hc, hx⟩ := h.c
    refine ⟨ao, cap, rfl, hc, fun hne => ?_⟩
    obtain ⟨b, off, rfl, hB, hat⟩ := hx hne
    exact ⟨b, off, rfl, hB, fun j x hj => (hat j x hj).same (hk.block b (hat j x hj).lt (h1 b (by simp [Value.ownBlock])))⟩
  · obtain ⟨ao, cap, rfl, hc, hx⟩ := h.v
    refine ⟨ao, cap, rfl, hc, fun hne => ?_⟩
    obtain ⟨b, off, rfl, hB, hat⟩ := hx hne
    exact ⟨b, off, rfl, hB, fun j x hj => (hat j x hj).same (hk.block b (hat j x hj).lt (h2 b (by simp [Value.ownBlock])))⟩

theorem El.below {w w' : World} {t : Txd} {S1 S2 : Value} (h : El w t S1 S2) (hb : Below w.heap.size w w') : El w' t S1 S2 := h.kept (Kept.ofBelow hb) (fun _ _ _ _ _ h => h)

/-- What taken leaves. -/
def TTPost (w : World) (v : Value) (r : Except Int (Txd × Nat)) (e : Ending) (w' : World) : Prop :=
  Below w.heap.size w w' ∧ ∃ (t : Txd) (a1 : Option Addr) (c1 : Nat) (a2 : Option Addr) (c2 : Nat) (p : Nat) (e2 st2 E : Int),
    e = .returned (.tuple #[txv t (.slice a1 t.xs.length c1) (.slice a2 t.vs.length c2), .agg #[v, .int .i64 p, .int .i64 e2, .int .i64 st2], .int .i64 E]) ∧ match r with
    | .error E0 => E = E0 ∧ E0 ≠ 0
    | .ok (t', a') => E = 0 ∧ t = t' ∧ p = a' ∧ e2 = 0 ∧ El w' t (.slice a1 t.xs.length c1) (.slice a2 t.vs.length c2)

/-- The blocks of 'taken': the Reader, those of the answer. -/
structure Rxm (w W : World) (v : Value) (a : Nat) (e st : Int) : Prop where
  r0 : W.heap[w.heap.size]? = some (.cells #[v, .int .i64 a, .int .i64 e, .int .i64 st] 74 (0, 0))
  r2 : W.heap[w.heap.size + 1]? = some (.cells #[.int .i64 0, .string emp, .int .i64 0, .slice none 0 0, .string emp, .slice none 0 0] 30 (0, 0))
  r3 : W.heap[w.heap.size + 1 + 1]? = some (.cells #[.slice none 0 0, .int .i64 0, .int .i64 0, .int .i64 0] 74 (0, 0))
  hb : Below w.heap.size w W

theorem Rxm.below {w W W' : World} {v : Value} {a : Nat} {e st : Int} (h : Rxm w W v a e st) (hb : Below W.heap.size W W') : Rxm w W' v a e st :=
  ⟨blk_of hb h.r0 (lt_of h.r0), blk_of hb h.r2 (lt_of h.r2), blk_of hb h.r3 (lt_of h.r3), below_on h.hb hb⟩

theorem rxm_start (w : World) (v : Value) (a : Nat) (e st : Int) :
    Rxm w (((w.alloc (.cells #[v, .int .i64 a, .int .i64 e, .int .i64 st] 74)).alloc (.cells #[.int .i64 0, .string emp, .int .i64 0, .slice none 0 0, .string emp, .slice none 0 0] 30)).alloc (.cells #[.slice none 0 0, .int .i64 0, .int .i64 0, .int .i64 0] 74)) v a e st := by
  have h0 := two1 w (.cells #[v, .int .i64 a, .int .i64 e, .int .i64 st] 74) (.cells #[.int .i64 0, .string emp, .int .i64 0, .slice none 0 0, .string emp, .slice none 0 0] 30)
  have h1 := two2 w (.cells #[v, .int .i64 a, .int .i64 e, .int .i64 st] 74) (.cells #[.int .i64 0, .string emp, .int .i64 0, .slice none 0 0, .string emp, .slice none 0 0] 30)
  have hb := below2 w (.cells #[v, .int .i64 a, .int .i64 e, .int .i64 st] 74) (.cells #[.int .i64 0, .string emp, .int .i64 0, .slice none 0 0, .string emp, .slice none 0 0] 30)
  have hsz : ((w.alloc (.cells #[v, .int .i64 a, .int .i64 e, .int .i64 st] 74)).alloc (.cells #[.int .i64 0, .string emp, .int .i64 0, .slice none 0 0, .string emp, .slice none 0 0] 30)).heap.size = w.heap.size + 1 + 1 := by simp
  generalize (w.alloc (.cells #[v, .int .i64 a, .int .i64 e, .int .i64 st] 74)).alloc (.cells #[.int .i64 0, .string emp, .int .i64 0, .slice none 0 0, .string emp, .slice none 0 0] 30) = W at h0 h1 hb hsz
  have b2 := below1 W (.cells #[.slice none 0 0, .int .i64 0, .int .i64 0, .int .i64 0] 74)
  have h3 := heap_alloc_new W (.cells #[.slice none 0 0, .int .i64 0, .int .i64 0, .int .i64 0] 74)
  rw [hsz] at h3
  exact ⟨blk_of b2 h0 (lt_of h0), blk_of b2 h1 (lt_of h1), h3, below_on hb b2⟩

/-- And the transaction. -/
structure Rxq (w W : World) (v : Value) (a : Nat) (e st : Int) (q : Nat) (t : Txd) (S1 S2 : Value) : Prop where
  tm : Rxm w W v a e st
  x : W.heap[q]? = some (txo t S1 S2 30)
  lq : w.heap.size + 1 + 1 < q

theorem Rxq.below {w W W' : World} {v : Value} {a : Nat} {e st : Int} {q : Nat} {t : Txd} {S1 S2 : Value} (h : Rxq w W v a e st q t S1 S2) (hb : Below W.heap.size W W') : Rxq w W' v a e st q t S1 S2 :=
  ⟨h.tm.below hb, blk_of hb h.x (lt_of h.x), h.lq⟩

theorem Rxm.reader {w W : World} {v : Value} {a : Nat} {e st : Int} (h : Rxm w W v a e st) (v2 : Value) (a2 : Nat) (e2 st2 : Int) : Rxm w (put4 W w.heap.size v2 (.int .i64 a2) (.int .i64 e2) (.int .i64 st2)) v2 a2 e2 st2 := by
  have k := put4_kept W w.heap.size v2 (.int .i64 a2) (.int .i64 e2) (.int .i64 st2)
  exact ⟨set4 h.r0 _ _ _ _, (k.block _ (lt_of h.r2) (by omega)).trans h.r2, (k.block _ (lt_of h.r3) (by omega)).trans h.r3, h.hb.trans (k.below h.hb.size (fun q hq e => by omega))⟩

theorem Rxq.reader {w W : World} {v : Value} {a : Nat} {e st : Int} {q : Nat} {t : Txd} {S1 S2 : Value} (h : Rxq w W v a e st q t S1 S2) (v2 : Value) (a2 : Nat) (e2 st2 : Int) : Rxq w (put4 W w.heap.size v2 (.int .i64 a2) (.int .i64 e2) (.int .i64 st2)) v2 a2 e2 st2 q t S1 S2 := by
  have k := put4_kept W w.heap.size v2 (.int .i64 a2) (.int .i64 e2) (.int .i64 st2)
  have := h.lq
  exact ⟨h.tm.reader v2 a2 e2 st2, (k.block _ (lt_of h.x) (by omega)).trans h.x, h.lq⟩

theorem Rxq.cell {w W : World} {v : Value} {a : Nat} {e st : Int} {q : Nat} {t t' : Txd} {S1 S2 S1' S2' : Value} (h : Rxq w W v a e st q t S1 S2) (o : Nat) (u : Value) (hy : (W.setCell ⟨q, o, none⟩ u).heap[q]? = some (txo t' S1' S2' 30)) : Rxq w (W.setCell ⟨q, o, none⟩ u) v a e st q t' S1' S2' := by
  have k := (Kept.refl (fun k => k = q) W).setCell (p := ⟨q, o, none⟩) (fun _ => rfl) u
  have := h.lq
  exact ⟨⟨(k.block _ (lt_of h.tm.r0) (by omega)).trans h.tm.r0, (k.block _ (lt_of h.tm.r2) (by omega)).trans h.tm.r2, (k.block _ (lt_of h.tm.r3) (by omega)).trans h.tm.r3, h.tm.hb.trans (k.below h.tm.hb.size (fun j hj e => by omega))⟩, hy, h.lq⟩

theorem tx_set {W : World} {q : Nat} {c : Array Value} (h : W.heap[q]? = some (.cells c 30 (0, 0))) (o : Nat) (u : Value) : (W.setCell ⟨q, o, none⟩ u).heap[q]? = some (.cells (c.set! o u) 30 (0, 0)) := by
  simp [World.setCell, Array.getElem?_modify, h]

theorem rxq_start {w W : World} {v : Value} {a : Nat} {e st : Int} (h : Rxm w W v a e st) (t : Txd) (S1 S2 : Value) : Rxq w (W.alloc (txo t S1 S2 30)) v a e st W.heap.size t S1 S2 :=
  ⟨h.below (below1 W _), heap_alloc_new W _, lt_of h.r3⟩

/-- The answer's two blocks. -/
structure Rxe (w W : World) (v : Value) (a : Nat) (e st : Int) (t : Txd) (S1 S2 : Value) : Prop where
  r2 : W.heap[w.heap.size + 1]? = some (txo t S1 S2 30)
  r3 : W.heap[w.heap.size + 1 + 1]? = some (.cells #[v, .int .i64 a, .int .i64 e, .int .i64 st] 74 (0, 0))
  hb : Below w.heap.size w W

theorem setT6 {w : World} {r : Nat} {c : Array Value} (h : w.heap[r]? = some (.cells c 30 (0, 0))) (hc : c.size = 6) (a b d e f g : Value) : (put6 w r a b d e f g).heap[r]? = some (.cells #[a, b, d, e, f, g] 30 (0, 0)) := by
  obtain ⟨l⟩ := c
  match l, hc with
  | [x0, x1, x2, x3, x4, x5], _ => simp [put6, World.setCell, Array.getElem?_modify, h]

theorem Rxm.ends {w W : World} {v : Value} {a : Nat} {e st : Int} (h : Rxm w W v a e st) (t : Txd) (S1 S2 : Value) :
    Rxe w (put4 (put6 W (w.heap.size + 1) (.int .i64 t.k) (.string t.pn) (.int .i64 t.pa) S1 (.string t.nm) S2) (w.heap.size + 1 + 1) v (.int .i64 a) (.int .i64 e) (.int .i64 st)).drew v a e st t S1 S2 ∧
    Kept (fun k => k = w.heap.size + 1 ∨ k = w.heap.size + 1 + 1) W (put4 (put6 W (w.heap.size + 1) (.int .i64 t.k) (.string t.pn) (.int .i64 t.pa) S1 (.string t.nm) S2) (w.heap.size + 1 + 1) v (.int .i64 a) (.int .i64 e) (.int .i64 st)).drew := by
  have k1 := kept6 W (w.heap.size + 1) (.int .i64 t.k) (.string t.pn) (.int .i64 t.pa) S1 (.string t.nm) S2
  have h2 := setT6 h.r2 rfl (.int .i64 t.k) (.string t.pn) (.int .i64 t.pa) S1 (.string t.nm) S2
  have h3 := (k1.block _ (lt_of h.r3) (by omega)).trans h.r3
  have hb1 := h.hb.trans (k1.below h.hb.size (fun q hq e => by omega))
  generalize put6 W (w.heap.size + 1) (.int .i64 t.k) (.string t.pn) (.int .i64 t.pa) S1 (.string t.nm) S2 = W1 at k1 h2 h3 hb1 ⊢
  have k2 := put4_kept W1 (w.heap.size + 1 + 1) v (.int .i64 a) (.int .i64 e) (.int .i64 st)
  have h4 : (put4 W1 (w.heap.size + 1 + 1) v (.int .i64 a) (.int .i64 e) (.int .i64 st)).heap[w.heap.size + 1 + 1]? = some (.cells #[v, .int .i64 a, .int .i64 e, .int .i64 st] 74 (0, 0)) := set4 h3 v (.int .i64 a) (.int .i64 e) (.int .i64 st)
  have hb2 := hb1.trans (k2.below hb1.size (fun q hq e => by omega))
  have h5 := (k2.block _ (lt_of h2) (by omega)).trans h2
  have k3 : Kept (fun k => k = w.heap.size + 1 ∨ k = w.heap.size + 1 + 1) W (put4 W1 (w.heap.size + 1 + 1) v (.int .i64 a) (.int .i64 e) (.int .i64 st)) := (k1.mono (fun _ _ h => .inl h)).trans k2 (fun _ _ h => .inr h)
  generalize put4 W1 (w.heap.size + 1 + 1) v (.int .i64 a) (.int .i64 e) (.int .i64 st) = W2 at k2 h4 hb2 h5 k3 ⊢
  exact ⟨⟨h5, h4, ⟨hb2.os, hb2.tape, hb2.output, hb2.size, hb2.block⟩⟩, k3.drew⟩

theorem Rxm.keeps {w W W' : World} {v : Value} {a : Nat} {e st : Int} {t : Txd} {S1 S2 : Value} (h : Rxm w W v a e st) (hk : Kept (fun k => k = w.heap.size + 1 ∨ k = w.heap.size + 1 + 1) W W') (hl : El W t S1 S2) : El W' t S1 S2 := by
  refine hl.kept hk (fun k cur e hc he hk2 => ?_)
  rcases hk2 with rfl | rfl
  · rw [h.r2] at hc
    rcases he with rfl | rfl <;> simp at hc
  · rw [h.r3] at hc
    rcases he with rfl | rfl <;> simp at hc

theorem load74z {w : World} {r : Nat} {a b c d : Value} (hb : w.heap[r]? = some (.cells #[a, b, c, d] 74 (0, 0))) : (loadVar 74 ⟨r, 0, none⟩).run Tryz.prog w = .ok (.agg #[a, b, c, d]) w := by
  obtain ⟨c0, c1, c2, c3, _⟩ := vfacts4 hb
  simp [go_sem, c0, c1, c2, c3]

theorem load30z {w : World} {r : Nat} {a b c d e f : Value} (hb : w.heap[r]? = some (.cells #[a, b, c, d, e, f] 30 (0, 0))) : (loadVar 30 ⟨r, 0, none⟩).run Tryz.prog w = .ok (.agg #[a, b, c, d, e, f]) w := by
  obtain ⟨c0, c1, c2, c3, c4, c5, _⟩ := vfacts6 hb
  simp [go_sem, c0, c1, c2, c3, c4, c5]

theorem ret31 {fn : Func} {p q u : Tmp} (h : fn.results = #[.cell p 30, .cell q 74, .tmp u]) {tmps : Array Value} {r s : Nat} {w : World} {a b c d : Value} {t : Txd} {S1 S2 : Value} (ht : tmps.getD p undef = .pointer (some ⟨r, 0, none⟩)) (hs : tmps.getD q undef = .pointer (some ⟨s, 0, none⟩))
    (hx : w.heap[r]? = some (txo t S1 S2 30)) (hb : w.heap[s]? = some (.cells #[a, b, c, d] 74 (0, 0))) :
    (results fn tmps).run Tryz.prog w = .ok (.tuple #[txv t S1 S2, .agg #[a, b, c, d], tmps.getD u undef]) w := by
  have ht2 := ht
  have hs2 := hs
  simp only [Array.getD_eq_getD_getElem?] at ht2 hs2
  simp only [results, h]
  simp [ht2, hs2, load74z hb, load30z hx, asAddr]

set_option maxRecDepth 100000 in
set_option maxHeartbeats 16000000 in
/-- The first byte can't be read. -/
theorem rtak_no (ao : Option Addr) (cc : Nat) (bs : List Int) (a : Nat) (st : Int) (w : World) (h : Sl w (.slice ao bs.length cc) bs) (hl : bs.length ≤ 1000000000) (ha : a ≤ bs.length) (he : (takeZ 0 1 bs a 0).2.2 ≠ 0) :
    Calls Tryz.prog 31 #[.agg #[.slice ao bs.length cc, .int .i64 a, .int .i64 0, .int .i64 st]] w (TTPost w (.slice ao bs.length cc) (tkTx bs a)) := by
  have HT := hid (fun W hW => rtakeByte_any (.slice ao bs.length cc) bs a 0 st W hW hl ha (fun h => absurd rfl h))
  have hR : tkTx bs a = .error (takeZ 0 1 bs a 0).2.2 := by rw [tkTx, if_neg he]
  rw [hR]
  obtain ⟨⟨⟨u, us⟩, a2, e2⟩, hz⟩ : ∃ z, takeZ 0 1 bs a 0 = z := ⟨_, rfl⟩
  rw [hz] at HT he ⊢
  unfold RRPost at HT
  dsimp only at HT he ⊢
  have he2 : (e2 == 0) = false := by simpa using he
  have he3 : (e2 != 0) = true := by simpa using he
  have HN := hid he
  have HS := hid h
  have H0 := hid (rxm_start w (.slice ao bs.length cc) a 0 st)
  clear h hz he hR
  go_enter Tryz.func31, Tryz.ntmps31
  go_upto_region 2 with (first
    | (go_at_call 60
       refine (HT.out _ (HS.out.below H0.out.hb)).mono ?_
       rintro e w1 ⟨st2, rfl, -, hb1⟩
       have H1 := hid (H0.out.below hb1)
       obtain ⟨p0, p1, p2, p3, pz⟩ := vfacts4 H1.out.r0
       clear hb1))
  refine cutG (fun W => Rxm w W (.slice ao bs.length cc) a2 e2 st2) (H1.out.reader (.slice ao bs.length cc) a2 e2 st2) ?_
  intro HWW HW
  have HW := hid HW
  clear H1 H0 HT p0 p1 p2 p3 pz
  obtain ⟨p0, p1, p2, p3, pz⟩ := vfacts4 HW.out.r0
  go_upto_region 3 with fail
  clear p0 p1 p2 p3 pz
  skip
  obtain ⟨p0, p1, p2, p3, pz⟩ := vfacts4 HW.out.r0
  obtain ⟨g0, g1, g2, g3, g4, g5, gz⟩ := vfacts6 HW.out.r2
  obtain ⟨y0, y1, y2, y3, yz⟩ := vfacts4 HW.out.r3
  have n0 := lt_of HW.out.r3
  have n1 : w.heap.size + 1 ≠ w.heap.size := by omega
  have n3 : w.heap.size + 1 + 1 ≠ w.heap.size := by omega
  have n5 : w.heap.size + 1 ≠ w.heap.size + 1 + 1 := by omega
  go_region_held (fun wx => (wx.cell? ⟨w.heap.size, 0, none⟩ = some (.slice ao bs.length cc) ∧ wx.cell? ⟨w.heap.size, 1, none⟩ = some (.int .i64 a2) ∧ wx.cell? ⟨w.heap.size, 2, none⟩ = some (.int .i64 e2) ∧ wx.cell? ⟨w.heap.size, 3, none⟩ = some (.int .i64 st2))) (first | go_keep | (simp only [dw_cellk, cs_blkk n1, cs_blkk n3, p0, p1, p2, p3, and_self]; done)) (fail)
  refine cutG (fun W => Rxe w W (.slice ao bs.length cc) a2 e2 st2 (⟨0, emp, 0, [], emp, []⟩ : Txd) (.slice none 0 0) (.slice none 0 0) ∧ Kept (fun k => k = w.heap.size + 1 ∨ k = w.heap.size + 1 + 1) HWW W) (HW.out.ends (⟨0, emp, 0, [], emp, []⟩ : Txd) (.slice none 0 0) (.slice none 0 0)) ?_
  rintro W3 ⟨H3, hk3⟩
  go_wp2
  refine bodyPost_ret (ret31 Tryz.results31 rfl rfl H3.r2 H3.r3) rfl ?_
  exact ⟨H3.hb, ⟨0, emp, 0, [], emp, []⟩, none, 0, none, 0, a2, e2, st2, e2, rfl, rfl, HN.out⟩

set_option maxRecDepth 100000 in
set_option maxHeartbeats 16000000 in
/-- A kind that is none. -/
theorem rtak_other (ao : Option Addr) (cc : Nat) (bs : List Int) (a : Nat) (st : Int) (w : World) (h : Sl w (.slice ao bs.length cc) bs) (ho : Oct bs) (hl : bs.length ≤ 1000000000) (ha : a ≤ bs.length) (he : (takeZ 0 1 bs a 0).2.2 = 0) (h1 : (takeZ 0 1 bs a 0).1.1 ≠ 1) (h2 : (takeZ 0 1 bs a 0).1.1 ≠ 2) :
    Calls Tryz.prog 31 #[.agg #[.slice ao bs.length cc, .int .i64 a, .int .i64 0, .int .i64 st]] w (TTPost w (.slice ao bs.length cc) (tkTx bs a)) := by
  have HT := hid (fun W hW => rtakeByte_any (.slice ao bs.length cc) bs a 0 st W hW hl ha (fun h => absurd rfl h))
  have hbd := takeZ_bd 0 1 bs a 0 ho
  have hle := takeZ_le 0 1 bs a 0 ho ha
  have hR : tkTx bs a = .error 1 := by rw [tkTx, if_pos he, if_neg h1, if_neg h2]
  rw [hR]
  obtain ⟨⟨⟨u, us⟩, a2, e2⟩, hz⟩ : ∃ z, takeZ 0 1 bs a 0 = z := ⟨_, rfl⟩
  rw [hz] at HT hbd hle he h1 h2
  unfold RRPost at HT
  dsimp only at HT hle he h1 h2
  subst he
  have hu : IntKind.i64.wrap u = u := by
    have h0 : 0 ≤ u := hbd.1
    have h1 : u < 256 := hbd.2.2.2 rfl rfl
    rw [IntKind.wrap_i64]
    omega
  have e1 : (u == 1) = false := by simpa using h1
  have e2 : (u == 2) = false := by simpa using h2
  have e3 : (u != 2) = true := by simpa using h2
  clear hz hR hbd h1 h2 hle
  have HS := hid h
  have H0 := hid (rxm_start w (.slice ao bs.length cc) a 0 st)
  clear h
  go_enter Tryz.func31, Tryz.ntmps31
  go_upto_region 2 with (first
    | (go_at_call 60
       refine (HT.out _ (HS.out.below H0.out.hb)).mono ?_
       rintro e w1 ⟨st2, rfl, -, hb1⟩
       have H1 := hid (H0.out.below hb1)
       obtain ⟨p0, p1, p2, p3, pz⟩ := vfacts4 H1.out.r0
       clear hb1))
  refine cutG (fun W => Rxm w W (.slice ao bs.length cc) a2 0 st2) (H1.out.reader (.slice ao bs.length cc) a2 0 st2) ?_
  intro W2 H2
  have H2 := hid H2
  clear H1 H0 HT p0 p1 p2 p3 pz
  obtain ⟨p0, p1, p2, p3, pz⟩ := vfacts4 H2.out.r0
  go_upto_region 6 with fail
  refine cutG (fun W => Rxq w W (.slice ao bs.length cc) a2 0 st2 W2.heap.size ⟨u, emp, 0, [], emp, []⟩ (.slice none 0 0) (.slice none 0 0)) (rxq_start H2.out ⟨u, emp, 0, [], emp, []⟩ (.slice none 0 0) (.slice none 0 0)) ?_
  intro W3 H3
  have H3 := hid H3
  generalize W2.heap.size = q at H3 ⊢
  clear H2 p0 p1 p2 p3 pz
  obtain ⟨p0, p1, p2, p3, pz⟩ := vfacts4 H3.out.tm.r0
  obtain ⟨x0, x1, x2, x3, x4, x5, xz⟩ := vfacts6 H3.out.x
  have nq := H3.out.lq
  dsimp only at x0 x1 x2 x3 x4 x5
  go_upto_region 14 with fail
  clear p0 p1 p2 p3 pz x0 x1 x2 x3 x4 x5 xz nq
  have HW := H3
  clear H3
  generalize hWW : W3 = HWW at *
  clear hWW
  skip
  obtain ⟨p0, p1, p2, p3, pz⟩ := vfacts4 HW.out.tm.r0
  obtain ⟨x0, x1, x2, x3, x4, x5, xz⟩ := vfacts6 HW.out.x
  obtain ⟨g0, g1, g2, g3, g4, g5, gz⟩ := vfacts6 HW.out.tm.r2
  obtain ⟨y0, y1, y2, y3, yz⟩ := vfacts4 HW.out.tm.r3
  have n0 := lt_of HW.out.tm.r3
  have nq := HW.out.lq
  have n1 : w.heap.size + 1 ≠ w.heap.size := by omega
  have n3 : w.heap.size + 1 + 1 ≠ w.heap.size := by omega
  have n5 : w.heap.size + 1 ≠ w.heap.size + 1 + 1 := by omega
  have n2 : w.heap.size + 1 ≠ q := by omega
  have n4 : w.heap.size + 1 + 1 ≠ q := by omega
  go_region_held (fun wx => (wx.cell? ⟨w.heap.size, 0, none⟩ = some (.slice ao bs.length cc) ∧ wx.cell? ⟨w.heap.size, 1, none⟩ = some (.int .i64 a2) ∧ wx.cell? ⟨w.heap.size, 2, none⟩ = some (.int .i64 0) ∧ wx.cell? ⟨w.heap.size, 3, none⟩ = some (.int .i64 st2)) ∧ (wx.cell? ⟨q, 0, none⟩ = some (.int .i64 u) ∧ wx.cell? ⟨q, 1, none⟩ = some (.string emp) ∧ wx.cell? ⟨q, 2, none⟩ = some (.int .i64 0) ∧ wx.cell? ⟨q, 3, none⟩ = some (.slice none 0 0) ∧ wx.cell? ⟨q, 4, none⟩ = some (.string emp) ∧ wx.cell? ⟨q, 5, none⟩ = some (.slice none 0 0))) (first | go_keep | (simp only [dw_cellk, cs_blkk n1, cs_blkk n3, cs_blkk n2, cs_blkk n4, p0, p1, p2, p3, x0, x1, x2, x3, x4, x5, and_self]; done)) (fail)
  refine cutG (fun W => Rxe w W (.slice ao bs.length cc) a2 0 st2 (⟨u, emp, 0, [], emp, []⟩ : Txd) (.slice none 0 0) (.slice none 0 0) ∧ Kept (fun k => k = w.heap.size + 1 ∨ k = w.heap.size + 1 + 1) HWW W) (HW.out.tm.ends (⟨u, emp, 0, [], emp, []⟩ : Txd) (.slice none 0 0) (.slice none 0 0)) ?_
  rintro W3 ⟨H3, hk3⟩
  go_wp2
  refine bodyPost_ret (ret31 Tryz.results31 rfl rfl H3.r2 H3.r3) rfl ?_
  exact ⟨H3.hb, ⟨u, emp, 0, [], emp, []⟩, none, 0, none, 0, a2, 0, st2, 1, rfl, rfl, by decide⟩

theorem Rxq.keptq {w W W' : World} {v : Value} {a : Nat} {e st : Int} {q : Nat} {t t' : Txd} {S1 S2 S1' S2' : Value} (h : Rxq w W v a e st q t S1 S2) (k : Kept (fun k => k = q) W W') (hx : W'.heap[q]? = some (txo t' S1' S2' 30)) : Rxq w W' v a e st q t' S1' S2' := by
  have := h.lq
  exact ⟨⟨(k.block _ (lt_of h.tm.r0) (by omega)).trans h.tm.r0, (k.block _ (lt_of h.tm.r2) (by omega)).trans h.tm.r2, (k.block _ (lt_of h.tm.r3) (by omega)).trans h.tm.r3, h.tm.hb.trans (k.below h.tm.hb.size (fun j hj e => by omega))⟩, hx, h.lq⟩

theorem tx_set3 {W : World} {q : Nat} {t : Txd} {S1 S2 : Value} (h : W.heap[q]? = some (txo t S1 S2 30)) (n : ByteArray) (a : Int) (S : Value) :
    (((W.setCell ⟨q, 1, none⟩ (.string n)).setCell ⟨q, 2, none⟩ (.int .i64 a)).setCell ⟨q, 3, none⟩ S).heap[q]? = some (.cells #[.int .i64 t.k, .string n, .int .i64 a, S, .string t.nm, S2] 30 (0, 0)) ∧
    Kept (fun k => k = q) W (((W.setCell ⟨q, 1, none⟩ (.string n)).setCell ⟨q, 2, none⟩ (.int .i64 a)).setCell ⟨q, 3, none⟩ S) :=
  ⟨by simp [World.setCell, Array.getElem?_modify, h], (((Kept.refl (fun k => k = q) W).setCell (p := ⟨q, 1, none⟩) (fun _ => rfl) _).setCell (p := ⟨q, 2, none⟩) (fun _ => rfl) _).setCell (p := ⟨q, 3, none⟩) (fun _ => rfl) _⟩

theorem tx_set4 {W : World} {q : Nat} {t : Txd} {S1 S2 : Value} (h : W.heap[q]? = some (txo t S1 S2 30)) (n : ByteArray) :
    (W.setCell ⟨q, 4, none⟩ (.string n)).heap[q]? = some (.cells #[.int .i64 t.k, .string t.pn, .int .i64 t.pa, S1, .string n, S2] 30 (0, 0)) ∧ Kept (fun k => k = q) W (W.setCell ⟨q, 4, none⟩ (.string n)) :=
  ⟨by simp [World.setCell, Array.getElem?_modify, h], (Kept.refl (fun k => k = q) W).setCell (p := ⟨q, 4, none⟩) (fun _ => rfl) _⟩

theorem tx_set5 {W : World} {q : Nat} {t : Txd} {S1 S2 : Value} (h : W.heap[q]? = some (txo t S1 S2 30)) (S : Value) :
    (W.setCell ⟨q, 5, none⟩ S).heap[q]? = some (.cells #[.int .i64 t.k, .string t.pn, .int .i64 t.pa, S1, .string t.nm, S] 30 (0, 0)) ∧ Kept (fun k => k = q) W (W.setCell ⟨q, 5, none⟩ S) :=
  ⟨by simp [World.setCell, Array.getElem?_modify, h], (Kept.refl (fun k => k = q) W).setCell (p := ⟨q, 5, none⟩) (fun _ => rfl) _⟩

theorem vs_nil (w : World) : VsAt 0 w (.slice none 0 0) [] := ⟨none, 0, rfl, Nat.le_refl _, fun h => absurd rfl h⟩
theorem cd_nil (w : World) : CdAt 0 w (.slice none 0 0) [] := ⟨none, 0, rfl, Nat.le_refl _, fun h => absurd rfl h⟩

theorem El.keptq {w w' : World} {t u : Txd} {S1 S2 U1 U2 : Value} {q : Nat} (h : El w t S1 S2) (hk : Kept (fun k => k = q) w w') (hq : w.heap[q]? = some (txo u U1 U2 30)) : El w' t S1 S2 := by
  refine h.kept hk (fun k cur e hc he hk2 => ?_)
  subst hk2
  rw [hq] at hc
  rcases he with rfl | rfl <;> simp at hc


end Go.Proofs.YtdnlfacfleemeaaGreat

namespace Go.Proofs.YtdnlfacfleemeaaGreat
open Go.RowKit Go.Lib

def UPt (w : World) (n : ByteArray) (a : Int) (X : List Ins) (E : Int) (e : Ending) (w' : World) : Prop :=
  Below w.heap.size w w' ∧ ∃ (so : Option Addr) (sc : Nat), e = .returned (.tuple #[.agg #[.string n, .int .i64 a, .slice so X.length sc], .int .i64 E]) ∧ CodeAt w' (.slice so X.length sc) X ∧ Ty 53 w' (.slice so X.length sc)

theorem rdec_t (v : Value) (bs : List Int) (w : World) (h : Sl w v bs) (ho : Oct bs) (hl : bs.length ≤ 1000000000) : Calls Tryz.prog 62 #[v] w (UPt w (dN (decP bs)) (dA (decP bs)) (dX (decP bs)) (dE (decP bs))) := by
  obtain ⟨ao, cc, rfl, _, _⟩ := id h
  refine (rpdecode_head ao cc bs w h ho hl).mono ?_
  rintro e w' ⟨hb, hm⟩
  refine ⟨hb, ?_⟩
  cases hD : decP bs with
  | error E =>
    rw [hD] at hm
    exact ⟨none, 0, hm, code_nil _, ty_nil _ _⟩
  | ok r =>
    obtain ⟨nm, ar, xs⟩ := r
    rw [hD] at hm
    obtain ⟨S, rfl, hc, ht⟩ := hm
    obtain ⟨so, sc, rfl, _, _⟩ := id hc
    exact ⟨_, _, rfl, hc, ht⟩

theorem tkDef_letters (bs : List Int) (a : Nat) (u : Int) (us : List Int) (a3 : Nat) (e3 : Int) (hz : takeZ 3 (bs.length : Int) bs a 0 = ((u, us), a3, e3)) :
    tkDef bs a = if e3 = 0 then (if dE (decP us) = 0 then .ok (⟨1, dN (decP us), dA (decP us), dX (decP us), emp, []⟩, a3) else .error (dE (decP us))) else .error e3 := by
  unfold tkDef
  rw [hz]
  dsimp only
  by_cases he : e3 = 0
  · rw [if_pos he, if_pos he]
    cases hD : decP us with
    | error E =>
      have := decP_err us E hD
      have h2 : dE (.error E) ≠ 0 := this
      rw [if_neg h2]
      rfl
    | ok r =>
      obtain ⟨nm, ar, xs⟩ := r
      have h2 : dE (.ok (nm, ar, xs)) = 0 := rfl
      rw [if_pos h2]
      rfl
  · rw [if_neg he, if_neg he]

set_option maxRecDepth 100000 in
set_option maxHeartbeats 16000000 in
/-- A definition. -/
theorem rtak_def (ao : Option Addr) (cc : Nat) (bs : List Int) (a : Nat) (st : Int) (w : World) (h : Sl w (.slice ao bs.length cc) bs) (ho : Oct bs) (hl : bs.length ≤ 1000000000) (ha : a ≤ bs.length) (he : (takeZ 0 1 bs a 0).2.2 = 0) (h1 : (takeZ 0 1 bs a 0).1.1 = 1) :
    Calls Tryz.prog 31 #[.agg #[.slice ao bs.length cc, .int .i64 a, .int .i64 0, .int .i64 st]] w (TTPost w (.slice ao bs.length cc) (tkTx bs a)) := by
  have HT := hid (fun W hW => rtakeByte_any (.slice ao bs.length cc) bs a 0 st W hW hl ha (fun h => absurd rfl h))
  have hbd := takeZ_bd 0 1 bs a 0 ho
  have hle := takeZ_le 0 1 bs a 0 ho ha
  obtain ⟨R, hRR⟩ : ∃ R, R = tkTx bs a := ⟨_, rfl⟩
  rw [← hRR]
  have hR : R = tkDef bs (takeZ 0 1 bs a 0).2.1 := by rw [hRR, tkTx, if_pos he, if_pos h1]
  obtain ⟨⟨⟨u, us⟩, a2, e2⟩, hz⟩ : ∃ z, takeZ 0 1 bs a 0 = z := ⟨_, rfl⟩
  rw [hz] at HT hbd hle he h1 hR
  unfold RRPost at HT
  dsimp only at HT hle he h1 hR
  subst he h1
  have HT3 := hid (fun W st hW => rtakeText_any (.slice ao bs.length cc) bs a2 0 st (bs.length : Int) W hW ho hl hle (fun h => absurd rfl h) (by omega) (by omega))
  have hoc := takeZ_oct3 (bs.length : Int) bs a2 ho
  obtain ⟨⟨⟨u3, us3⟩, a3, e3⟩, hz3⟩ : ∃ z, takeZ 3 (bs.length : Int) bs a2 0 = z := ⟨_, rfl⟩
  rw [tkDef_letters bs a2 u3 us3 a3 e3 hz3] at hR
  rw [hz3] at HT3 hoc
  unfold RRPost at HT3
  dsimp only at HT3 hoc
  have HO := hid hoc
  have HR := hid hR
  clear hz hR hRR hbd hz3 hoc hle
  have HS := hid h
  have H0 := hid (rxm_start w (.slice ao bs.length cc) a 0 st)
  clear h
  go_enter Tryz.func31, Tryz.ntmps31
  go_upto_region 2 with (first
    | (go_at_call 60
       refine (HT.out _ (HS.out.below H0.out.hb)).mono ?_
       rintro e w1 ⟨st2, rfl, -, hb1⟩
       have H1 := hid (H0.out.below hb1)
       obtain ⟨p0, p1, p2, p3, pz⟩ := vfacts4 H1.out.r0
       clear hb1))
  refine cutG (fun W => Rxm w W (.slice ao bs.length cc) a2 0 st2) (H1.out.reader (.slice ao bs.length cc) a2 0 st2) ?_
  intro W2 H2
  have H2 := hid H2
  clear H1 H0 HT p0 p1 p2 p3 pz
  obtain ⟨p0, p1, p2, p3, pz⟩ := vfacts4 H2.out.r0
  go_upto_region 6 with fail
  refine cutG (fun W => Rxq w W (.slice ao bs.length cc) a2 0 st2 W2.heap.size ⟨1, emp, 0, [], emp, []⟩ (.slice none 0 0) (.slice none 0 0)) (rxq_start H2.out ⟨1, emp, 0, [], emp, []⟩ (.slice none 0 0) (.slice none 0 0)) ?_
  intro W3 H3
  have H3 := hid H3
  generalize W2.heap.size = q at H3 ⊢
  clear H2 p0 p1 p2 p3 pz
  obtain ⟨p0, p1, p2, p3, pz⟩ := vfacts4 H3.out.tm.r0
  obtain ⟨x0, x1, x2, x3, x4, x5, xz⟩ := vfacts6 H3.out.x
  have nq := H3.out.lq
  dsimp only at x0 x1 x2 x3 x4 x5
  go_upto_region 8 with (first
    | (go_at_call 61
       refine (HT3.out _ st2 (HS.out.below H3.out.tm.hb)).mono ?_
       rintro e w4 ⟨st3, rfl, -, hb4⟩
       have H4 := hid (H3.out.below hb4)
       obtain ⟨p0, p1, p2, p3, pz⟩ := vfacts4 H4.out.tm.r0
       clear hb4))
  refine cutG (fun W => Rxq w W (.slice ao bs.length cc) a3 e3 st3 q ⟨1, emp, 0, [], emp, []⟩ (.slice none 0 0) (.slice none 0 0)) (H4.out.reader (.slice ao bs.length cc) a3 e3 st3) ?_
  intro HWW HW
  have HW := hid HW
  clear H4 H3 HT3 p0 p1 p2 p3 pz x0 x1 x2 x3 x4 x5 xz nq
  obtain ⟨p0, p1, p2, p3, pz⟩ := vfacts4 HW.out.tm.r0
  by_cases he : e3 = 0
  · subst he
    obtain ⟨v5, W6, hcv, hsl, hb6⟩ := conv_bytes HWW (mkStr us3)
    rw [strBs_mkStr us3 HO.out.1] at hsl
    have H6 := hid (HW.out.below hb6)
    have HD := hid (rdec_t v5 us3 W6 hsl HO.out.1 (by have := HO.out.2; omega))
    unfold UPt at HD
    have HR2 : Hid (R = if dE (decP us3) = 0 then .ok (⟨1, dN (decP us3), dA (decP us3), dX (decP us3), emp, []⟩, a3) else .error (dE (decP us3))) := hid (by rw [HR.out, if_pos rfl])
    generalize dE (decP us3) = E at HD HR2
    generalize dN (decP us3) = nD at HD HR2
    generalize dA (decP us3) = aD at HD HR2
    generalize dX (decP us3) = xD at HD HR2
    clear hb6 hsl HR
    go_upto_region 11 with (first
      | (go_at_call 62
         refine HD.out.mono ?_
         rintro e w7 ⟨hb7, so, sc, rfl, hco, hty⟩
         have H7 := hid (And.intro (H6.out.below hb7) (And.intro hco hty))
         clear hb7 hco hty))
    refine cutG (fun W => Rxq w W (.slice ao bs.length cc) a3 0 st3 q ⟨1, emp, 0, [], emp, []⟩ (.slice none 0 0) (.slice none 0 0) ∧ W.heap[w7.heap.size]? = some (po nD aD (.slice so xD.length sc)) ∧ CodeAt W (.slice so xD.length sc) xD ∧ Ty 53 W (.slice so xD.length sc) ∧ q < w7.heap.size) ⟨H7.out.1.below (below1 _ _), heap_alloc_new _ _, H7.out.2.1.below (below1 _ _), H7.out.2.2.kept (Kept.ofBelow (below1 _ _)) (fun _ _ h => h), lt_of H7.out.1.x⟩ ?_
    rintro W8 ⟨H8, h9, h10, h11, hq8⟩
    clear H7 H6 HW HD hcv p0 p1 p2 p3 pz
    generalize w7.heap.size = q8 at h9 hq8 ⊢
    obtain ⟨z0, z1, z2, zz⟩ := vfacts h9
    obtain ⟨x0, x1, x2, x3, x4, x5, xz⟩ := vfacts6 H8.x
    have nx1 : q ≠ q8 := by omega
    have nx2 : q8 ≠ q := by omega
    have HS3 := hid (tx_set3 H8.x nD aD (.slice so xD.length sc))
    have HEl : Hid (El W8 ⟨1, nD, aD, xD, emp, []⟩ (.slice so xD.length sc) (.slice none 0 0)) := hid ⟨cd_of_code h10, vs_nil _, h11, ty_nil _ _⟩
    have H8 := hid H8
    clear h9 h10 h11
    go_upto_region 12 with fail
    refine cutG (fun W => Rxq w W (.slice ao bs.length cc) a3 0 st3 q ⟨1, nD, aD, xD, emp, []⟩ (.slice so xD.length sc) (.slice none 0 0) ∧ El W ⟨1, nD, aD, xD, emp, []⟩ (.slice so xD.length sc) (.slice none 0 0)) ⟨H8.out.keptq HS3.out.2 HS3.out.1, HEl.out.keptq HS3.out.2 H8.out.x⟩ ?_
    rintro HWW ⟨HW, HE2⟩
    have HW := hid HW
    have HE2 := hid HE2
    clear HEl HS3 H8 x0 x1 x2 x3 x4 x5 xz z0 z1 z2 zz nx1 nx2
    skip
    obtain ⟨p0, p1, p2, p3, pz⟩ := vfacts4 HW.out.tm.r0
    obtain ⟨x0, x1, x2, x3, x4, x5, xz⟩ := vfacts6 HW.out.x
    obtain ⟨g0, g1, g2, g3, g4, g5, gz⟩ := vfacts6 HW.out.tm.r2
    obtain ⟨y0, y1, y2, y3, yz⟩ := vfacts4 HW.out.tm.r3
    have n0 := lt_of HW.out.tm.r3
    have nq := HW.out.lq
    have n1 : w.heap.size + 1 ≠ w.heap.size := by omega
    have n3 : w.heap.size + 1 + 1 ≠ w.heap.size := by omega
    have n5 : w.heap.size + 1 ≠ w.heap.size + 1 + 1 := by omega
    have n2 : w.heap.size + 1 ≠ q := by omega
    have n4 : w.heap.size + 1 + 1 ≠ q := by omega
    go_region_held (fun wx => (wx.cell? ⟨w.heap.size, 0, none⟩ = some (.slice ao bs.length cc) ∧ wx.cell? ⟨w.heap.size, 1, none⟩ = some (.int .i64 a3) ∧ wx.cell? ⟨w.heap.size, 2, none⟩ = some (.int .i64 0) ∧ wx.cell? ⟨w.heap.size, 3, none⟩ = some (.int .i64 st3)) ∧ (wx.cell? ⟨q, 0, none⟩ = some (.int .i64 1) ∧ wx.cell? ⟨q, 1, none⟩ = some (.string nD) ∧ wx.cell? ⟨q, 2, none⟩ = some (.int .i64 aD) ∧ wx.cell? ⟨q, 3, none⟩ = some (.slice so xD.length sc) ∧ wx.cell? ⟨q, 4, none⟩ = some (.string emp) ∧ wx.cell? ⟨q, 5, none⟩ = some (.slice none 0 0))) (first | go_keep | (simp only [dw_cellk, cs_blkk n1, cs_blkk n3, cs_blkk n2, cs_blkk n4, p0, p1, p2, p3, x0, x1, x2, x3, x4, x5, and_self]; done)) (fail)
    refine cutG (fun W => Rxe w W (.slice ao bs.length cc) a3 0 st3 (⟨1, nD, aD, xD, emp, []⟩ : Txd) (.slice so xD.length sc) (.slice none 0 0) ∧ Kept (fun k => k = w.heap.size + 1 ∨ k = w.heap.size + 1 + 1) HWW W) (HW.out.tm.ends (⟨1, nD, aD, xD, emp, []⟩ : Txd) (.slice so xD.length sc) (.slice none 0 0)) ?_
    rintro W3 ⟨H3, hk3⟩
    go_wp2
    refine bodyPost_ret (ret31 Tryz.results31 rfl rfl H3.r2 H3.r3) rfl ?_
    have hEl := HW.out.tm.keeps hk3 HE2.out
    refine ⟨H3.hb, ⟨1, nD, aD, xD, emp, []⟩, so, sc, none, 0, a3, 0, st3, E, rfl, ?_⟩
    rw [HR2.out]
    by_cases hE0 : E = 0
    · rw [if_pos hE0]
      exact ⟨hE0, rfl, rfl, rfl, hEl⟩
    · rw [if_neg hE0]
      exact ⟨rfl, hE0⟩
  · have he2 : (e3 == 0) = false := by simpa using he
    have he3 : (e3 != 0) = true := by simpa using he
    have HN := hid he
    have HR2 : Hid (R = .error e3) := hid (by rw [HR.out, if_neg he])
    clear he HR
    go_upto_region 9 with fail
    clear p0 p1 p2 p3 pz
    skip
    obtain ⟨p0, p1, p2, p3, pz⟩ := vfacts4 HW.out.tm.r0
    obtain ⟨x0, x1, x2, x3, x4, x5, xz⟩ := vfacts6 HW.out.x
    obtain ⟨g0, g1, g2, g3, g4, g5, gz⟩ := vfacts6 HW.out.tm.r2
    obtain ⟨y0, y1, y2, y3, yz⟩ := vfacts4 HW.out.tm.r3
    have n0 := lt_of HW.out.tm.r3
    have nq := HW.out.lq
    have n1 : w.heap.size + 1 ≠ w.heap.size := by omega
    have n3 : w.heap.size + 1 + 1 ≠ w.heap.size := by omega
    have n5 : w.heap.size + 1 ≠ w.heap.size + 1 + 1 := by omega
    have n2 : w.heap.size + 1 ≠ q := by omega
    have n4 : w.heap.size + 1 + 1 ≠ q := by omega
    go_region_held (fun wx => (wx.cell? ⟨w.heap.size, 0, none⟩ = some (.slice ao bs.length cc) ∧ wx.cell? ⟨w.heap.size, 1, none⟩ = some (.int .i64 a3) ∧ wx.cell? ⟨w.heap.size, 2, none⟩ = some (.int .i64 e3) ∧ wx.cell? ⟨w.heap.size, 3, none⟩ = some (.int .i64 st3)) ∧ (wx.cell? ⟨q, 0, none⟩ = some (.int .i64 1) ∧ wx.cell? ⟨q, 1, none⟩ = some (.string emp) ∧ wx.cell? ⟨q, 2, none⟩ = some (.int .i64 0) ∧ wx.cell? ⟨q, 3, none⟩ = some (.slice none 0 0) ∧ wx.cell? ⟨q, 4, none⟩ = some (.string emp) ∧ wx.cell? ⟨q, 5, none⟩ = some (.slice none 0 0))) (first | go_keep | (simp only [dw_cellk, cs_blkk n1, cs_blkk n3, cs_blkk n2, cs_blkk n4, p0, p1, p2, p3, x0, x1, x2, x3, x4, x5, and_self]; done)) (fail)
    refine cutG (fun W => Rxe w W (.slice ao bs.length cc) a3 e3 st3 (⟨1, emp, 0, [], emp, []⟩ : Txd) (.slice none 0 0) (.slice none 0 0) ∧ Kept (fun k => k = w.heap.size + 1 ∨ k = w.heap.size + 1 + 1) HWW W) (HW.out.tm.ends (⟨1, emp, 0, [], emp, []⟩ : Txd) (.slice none 0 0) (.slice none 0 0)) ?_
    rintro W3 ⟨H3, hk3⟩
    go_wp2
    refine bodyPost_ret (ret31 Tryz.results31 rfl rfl H3.r2 H3.r3) rfl ?_
    rw [HR2.out]
    exact ⟨H3.hb, ⟨1, emp, 0, [], emp, []⟩, none, 0, none, 0, a3, e3, st3, e3, rfl, rfl, HN.out⟩

end Go.Proofs.YtdnlfacfleemeaaGreat
