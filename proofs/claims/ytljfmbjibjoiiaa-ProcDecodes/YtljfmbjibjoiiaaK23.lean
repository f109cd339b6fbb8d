import Derived.Test.YtljfmbjibjoiiaaK22
import Derived.Test.YtljfmbjibjoiiaaK19
import Derived.Test.YtljfmbjibjoiiaaK21
import Derived.StillTailTactics
namespace Go.Proofs.Ytljfmbjibjoiiaa
open Go.RowKit Go.Lib

theorem io_set5 {w : World} {r : Nat} {o a b c n k i : Int} {t : ByteArray} (h : w.heap[r]? = some (io o a b c n k i t)) (v : Int) : (w.setCell ⟨r, 5, none⟩ (.int .i64 v)).heap[r]? = some (io o a b c n v i t) := by
  simp [World.setCell, Array.getElem?_modify, h]
theorem io_set6 {w : World} {r : Nat} {o a b c n k i : Int} {t : ByteArray} (h : w.heap[r]? = some (io o a b c n k i t)) (v : Int) : (w.setCell ⟨r, 6, none⟩ (.int .i64 v)).heap[r]? = some (io o a b c n k v t) := by
  simp [World.setCell, Array.getElem?_modify, h]
theorem io_set7 {w : World} {r : Nat} {o a b c n k i : Int} {t : ByteArray} (h : w.heap[r]? = some (io o a b c n k i t)) (v : ByteArray) : (w.setCell ⟨r, 7, none⟩ (.string v)).heap[r]? = some (io o a b c n k i v) := by
  simp [World.setCell, Array.getElem?_modify, h]

theorem tkn_val {w W : World} {v : Value} {a : Nat} {e st : Int} {x : Ins} (h : Tkn w W v a e st x) (K I : Int) (T : ByteArray) :
    Tkn w (((W.setCell ⟨w.heap.size + 1, 5, none⟩ (.int .i64 K)).setCell ⟨w.heap.size + 1, 6, none⟩ (.int .i64 I)).setCell ⟨w.heap.size + 1, 7, none⟩ (.string T)) v a e st { x with k := K, i := I, t := T } := by
  have h1 := h.cell (y := { x with k := K }) 5 (.int .i64 K) (io_set5 h.r1 K)
  have h2 := h1.cell (y := { x with k := K, i := I }) 6 (.int .i64 I) (io_set6 h1.r1 I)
  exact h2.cell (y := { x with k := K, i := I, t := T }) 7 (.string T) (io_set7 h2.r1 T)

theorem dec_letters (bs us : List Int) (x : Ins) (a : Nat) (u : Int) (a2 : Nat) (hz : takeZ 3 (bs.length : Int) bs a 0 = ((u, us), a2, 0)) :
    ∃ K I T E, decV (decZ us) = .tuple #[vl K I T, .int .i64 E] ∧ tkL bs 86 x a = if E = 0 then .ok ({ x with k := K, i := I, t := T }, a2) else .error E := by
  have hL : tkL bs 86 x a = match tkVal bs bs.length a with
      | .error E => .error E
      | .ok (d, a3) => .ok ({ x with k := d.1, i := d.2.1, t := mkStr d.2.2 }, a3) := by
    unfold tkL
    simp only [show ¬ (86 : Int) = 65 by decide, show ¬ (86 : Int) = 66 by decide, show ¬ (86 : Int) = 67 by decide, show ¬ (86 : Int) = 97 by decide, show ¬ (86 : Int) = 78 by decide, if_false, if_true]
    cases tkVal bs bs.length a with
    | error E => rfl
    | ok d => rfl
  rw [hL, tkVal, hz]
  dsimp only
  rw [if_pos rfl]
  by_cases hd : (decZ us).2 = 0
  · exact ⟨(decZ us).1.1, (decZ us).1.2.1, mkStr (decZ us).1.2.2, 0, by rw [decV, if_pos hd], by rw [if_pos hd, if_pos rfl]⟩
  · exact ⟨0, 0, emp, (decZ us).2, by rw [decV, if_neg hd], by rw [if_neg hd, if_neg hd]⟩

set_option maxRecDepth 100000 in
set_option maxHeartbeats 4000000 in
theorem taken_v (ao : Option Addr) (cc : Nat) (bs : List Int) (a : Nat) (st : Int) (x : Ins) (w : World) (h : Sl w (.slice ao bs.length cc) bs) (ho : Oct bs) (hl : bs.length ≤ 1000000000) (ha : a ≤ bs.length) :
    Calls Try.prog 44 #[.agg #[.slice ao bs.length cc, .int .i64 a, .int .i64 0, .int .i64 st], x.val, .int .u8 86] w (TLPost (.slice ao bs.length cc) w (tkL bs 86 x a)) := by
  have HT := hid (fun W hW => rtakeText_any (.slice ao bs.length cc) bs a 0 st (bs.length : Int) W hW ho hl ha (fun h => absurd rfl h) (by omega) (by omega))
  have hoc := takeZ_oct3 (bs.length : Int) bs a ho
  obtain ⟨⟨⟨u, us⟩, a2, e2⟩, hz⟩ : ∃ z, takeZ 3 (bs.length : Int) bs a 0 = z := ⟨_, rfl⟩
  rw [hz] at HT hoc
  unfold RRPost at HT
  dsimp only at HT hoc
  have HZ := hid hz
  have HO := hid hoc
  have HS := hid h
  have H0 := hid (tkn_start w (.slice ao bs.length cc) a 0 st x)
  unfold Ins.val
  clear h hz hoc
  go_enter Try.func44, Try.ntmps44
  go_upto_region 19 with (first
    | (go_at_call 41
       refine (HT.out _ (HS.out.below H0.out.hb)).mono ?_
       rintro e w1 ⟨st2, rfl, -, hb1⟩
       have H1 := hid (H0.out.below hb1)
       obtain ⟨p0, p1, p2, p3, pz⟩ := vfacts4 H1.out.r0
       obtain ⟨x0, x1, x2, x3, x4, x5, x6, x7, xz⟩ := vfacts8 H1.out.r1
       have n0 := lt_of H1.out.r3
       clear hb1))
  refine cutG (fun W => Tkn w W (.slice ao bs.length cc) a2 e2 st2 x) (H1.out.reader (.slice ao bs.length cc) a2 e2 st2) ?_
  intro W2 H2
  have H2 := hid H2
  clear H1 H0 HT p0 p1 p2 p3 pz x0 x1 x2 x3 x4 x5 x6 x7 xz n0 HS
  by_cases he : e2 = 0
  · subst he
    obtain ⟨v3, W3, hcv, hsl, hb3⟩ := conv_bytes W2 (mkStr us)
    rw [strBs_mkStr us HO.out.1] at hsl
    have H3 := hid (H2.out.below hb3)
    have HD := hid (rdecode_any v3 us W3 hsl HO.out.1 (by have := HO.out.2; omega))
    obtain ⟨K, I, T, E, hd, hE⟩ : ∃ K I T E, decV (decZ us) = .tuple #[vl K I T, .int .i64 E] ∧ tkL bs 86 x a = if E = 0 then .ok ({ x with k := K, i := I, t := T }, a2) else .error E := dec_letters bs us x a u a2 HZ.out
    rw [hd] at HD
    have HE := hid hE
    obtain ⟨p0, p1, p2, p3, pz⟩ := vfacts4 H2.out.r0
    clear hb3 hsl hd hE
    go_upto_region 22 with (first
      | (go_at_call 81
         refine HD.out.mono ?_
         rintro e w4 ⟨rfl, hb4⟩
         have H4 := hid (H3.out.below hb4)
         obtain ⟨x0, x1, x2, x3, x4, x5, x6, x7, xz⟩ := vfacts8 H4.out.r1
         have n0 := lt_of H4.out.r3
         have nx1 : w.heap.size + 1 < w4.heap.size := by omega
         have nx2 : w.heap.size + 1 ≠ w4.heap.size := by omega
         have nx3 : w4.heap.size ≠ w.heap.size + 1 := by omega
         clear hb4))
    refine cutG (fun W => Tkn w W (.slice ao bs.length cc) a2 0 st2 { x with k := K, i := I, t := T }) ((tkn_val H4.out K I T).below (below1 _ _)) ?_
    intro W5 HW
    have HW := hid HW
    clear H4 H3 H2 HD nx1 nx2 nx3 x0 x1 x2 x3 x4 x5 x6 x7 xz n0 p0 p1 p2 p3 pz hcv
    obtain ⟨p0, p1, p2, p3, pz⟩ := vfacts4 HW.out.r0
    obtain ⟨x0, x1, x2, x3, x4, x5, x6, x7, xz⟩ := vfacts8 HW.out.r1
    obtain ⟨q0, q1, q2, q3, qz⟩ := vfacts4 HW.out.r2
    obtain ⟨y0, y1, y2, y3, y4, y5, y6, y7, yz⟩ := vfacts8 HW.out.r3
    have n0 := lt_of HW.out.r3
    dsimp only at x0 x1 x2 x3 x4 x5 x6 x7
    have n1 : w.heap.size + 1 + 1 ≠ w.heap.size := by omega
    have n2 : w.heap.size + 1 + 1 ≠ w.heap.size + 1 := by omega
    have n3 : w.heap.size + 1 + 1 + 1 ≠ w.heap.size := by omega
    have n4 : w.heap.size + 1 + 1 + 1 ≠ w.heap.size + 1 := by omega
    have n5 : w.heap.size + 1 + 1 ≠ w.heap.size + 1 + 1 + 1 := by omega
    go_region_held (fun wx => (wx.cell? ⟨w.heap.size, 0, none⟩ = some (.slice ao bs.length cc) ∧ wx.cell? ⟨w.heap.size, 1, none⟩ = some (.int .i64 a2) ∧ wx.cell? ⟨w.heap.size, 2, none⟩ = some (.int .i64 0) ∧ wx.cell? ⟨w.heap.size, 3, none⟩ = some (.int .i64 st2)) ∧ (wx.cell? ⟨w.heap.size + 1, 0, none⟩ = some (.int .i64 x.op) ∧ wx.cell? ⟨w.heap.size + 1, 1, none⟩ = some (.int .i64 x.a) ∧ wx.cell? ⟨w.heap.size + 1, 2, none⟩ = some (.int .i64 x.b) ∧ wx.cell? ⟨w.heap.size + 1, 3, none⟩ = some (.int .i64 x.c) ∧ wx.cell? ⟨w.heap.size + 1, 4, none⟩ = some (.int .i64 x.n) ∧ wx.cell? ⟨w.heap.size + 1, 5, none⟩ = some (.int .i64 K) ∧ wx.cell? ⟨w.heap.size + 1, 6, none⟩ = some (.int .i64 I) ∧ wx.cell? ⟨w.heap.size + 1, 7, none⟩ = some (.string T))) (first | go_keep | (simp only [dw_cell, cs_blk n1, cs_blk n2, cs_blk n3, cs_blk n4, p0, p1, p2, p3, x0, x1, x2, x3, x4, x5, x6, x7, and_self]; done)) (fail)
    refine cutG (fun W => Tke w W (.slice ao bs.length cc) a2 0 st2 { x with k := K, i := I, t := T }) HW.out.ends ?_
    intro W6 H6
    go_wp2
    refine bodyPost_ret (ret44 Try.results44 rfl rfl H6.r2 H6.r3) rfl ?_
    refine ⟨H6.hb, _, a2, 0, st2, E, rfl, ?_⟩
    rw [HE.out]
    by_cases hE0 : E = 0
    · rw [if_pos hE0]
      exact ⟨hE0, rfl, rfl, rfl⟩
    · rw [if_neg hE0]
      exact ⟨rfl, hE0⟩
  · have he2 : (e2 == 0) = false := by simpa using he
    have HN := hid he
    have HW := H2
    clear he H2
    obtain ⟨p0, p1, p2, p3, pz⟩ := vfacts4 HW.out.r0
    obtain ⟨x0, x1, x2, x3, x4, x5, x6, x7, xz⟩ := vfacts8 HW.out.r1
    obtain ⟨q0, q1, q2, q3, qz⟩ := vfacts4 HW.out.r2
    obtain ⟨y0, y1, y2, y3, y4, y5, y6, y7, yz⟩ := vfacts8 HW.out.r3
    have n0 := lt_of HW.out.r3
    have n1 : w.heap.size + 1 + 1 ≠ w.heap.size := by omega
    have n2 : w.heap.size + 1 + 1 ≠ w.heap.size + 1 := by omega
    have n3 : w.heap.size + 1 + 1 + 1 ≠ w.heap.size := by omega
    have n4 : w.heap.size + 1 + 1 + 1 ≠ w.heap.size + 1 := by omega
    have n5 : w.heap.size + 1 + 1 ≠ w.heap.size + 1 + 1 + 1 := by omega
    go_upto_region 23 with fail
    go_region_held (fun wx => (wx.cell? ⟨w.heap.size, 0, none⟩ = some (.slice ao bs.length cc) ∧ wx.cell? ⟨w.heap.size, 1, none⟩ = some (.int .i64 a2) ∧ wx.cell? ⟨w.heap.size, 2, none⟩ = some (.int .i64 e2) ∧ wx.cell? ⟨w.heap.size, 3, none⟩ = some (.int .i64 st2)) ∧ (wx.cell? ⟨w.heap.size + 1, 0, none⟩ = some (.int .i64 x.op) ∧ wx.cell? ⟨w.heap.size + 1, 1, none⟩ = some (.int .i64 x.a) ∧ wx.cell? ⟨w.heap.size + 1, 2, none⟩ = some (.int .i64 x.b) ∧ wx.cell? ⟨w.heap.size + 1, 3, none⟩ = some (.int .i64 x.c) ∧ wx.cell? ⟨w.heap.size + 1, 4, none⟩ = some (.int .i64 x.n) ∧ wx.cell? ⟨w.heap.size + 1, 5, none⟩ = some (.int .i64 x.k) ∧ wx.cell? ⟨w.heap.size + 1, 6, none⟩ = some (.int .i64 x.i) ∧ wx.cell? ⟨w.heap.size + 1, 7, none⟩ = some (.string x.t))) (first | go_keep | (simp only [dw_cell, cs_blk n1, cs_blk n2, cs_blk n3, cs_blk n4, p0, p1, p2, p3, x0, x1, x2, x3, x4, x5, x6, x7, and_self]; done)) (fail)
    refine cutG (fun W => Tke w W (.slice ao bs.length cc) a2 e2 st2 x) HW.out.ends ?_
    intro W6 H6
    go_wp2
    refine bodyPost_ret (ret44 Try.results44 rfl rfl H6.r2 H6.r3) rfl ?_
    refine ⟨H6.hb, _, a2, e2, st2, e2, rfl, ?_⟩
    rw [show tkL bs 86 x a = .error e2 by
      unfold tkL
      simp only [show ¬ (86 : Int) = 65 by decide, show ¬ (86 : Int) = 66 by decide, show ¬ (86 : Int) = 67 by decide, show ¬ (86 : Int) = 97 by decide, show ¬ (86 : Int) = 78 by decide, if_false, if_true, tkVal, HZ.out, if_neg HN.out]]
    exact ⟨rfl, HN.out⟩

end Go.Proofs.Ytljfmbjibjoiiaa

namespace Go.Proofs.Ytljfmbjibjoiiaa
open Go.RowKit Go.Lib

theorem rtaken_any (ao : Option Addr) (cc : Nat) (bs : List Int) (a : Nat) (st : Int) (x : Ins) (c : Int) (w : World) (h : Sl w (.slice ao bs.length cc) bs) (ho : Oct bs) (hl : bs.length ≤ 1000000000) (ha : a ≤ bs.length)
    (hc : c = 65 ∨ c = 66 ∨ c = 67 ∨ c = 97 ∨ c = 78 ∨ c = 86) :
    Calls Try.prog 44 #[.agg #[.slice ao bs.length cc, .int .i64 a, .int .i64 0, .int .i64 st], x.val, .int .u8 c] w (TLPost (.slice ao bs.length cc) w (tkL bs c x a)) := by
  rcases hc with rfl | rfl | rfl | rfl | rfl | rfl
  · exact taken_a ao cc bs a st x w h ho hl ha
  · exact taken_b ao cc bs a st x w h ho hl ha
  · exact taken_c ao cc bs a st x w h ho hl ha
  · exact taken_s ao cc bs a st x w h ho hl ha
  · exact taken_n ao cc bs a st x w h ho hl ha
  · exact taken_v ao cc bs a st x w h ho hl ha

theorem fdS_lets (op : Int) (h : 1 ≤ op ∧ op ≤ 16) : ∀ c ∈ strBs (fdS op), c = 65 ∨ c = 66 ∨ c = 67 ∨ c = 97 ∨ c = 78 ∨ c = 86 := by
  rcases op_cases op with rfl | rfl | rfl | rfl | rfl | rfl | rfl | rfl | rfl | rfl | rfl | rfl | rfl | rfl | rfl | rfl | h2
  case inr.inr.inr.inr.inr.inr.inr.inr.inr.inr.inr.inr.inr.inr.inr.inr => exact absurd h h2
  all_goals simp [fdS, strBs]

theorem tkVal_le (bs : List Int) (ho : Oct bs) (a a2 : Nat) (d : Int × Int × List Int) (ha : a ≤ bs.length) (h : tkVal bs bs.length a = .ok (d, a2)) : a2 ≤ bs.length := by
  have h3 := takeZ_le 3 (bs.length : Int) bs a 0 ho ha
  unfold tkVal at h
  split at h
  · split at h
    · injection h with h
      injection h with _ h
      omega
    · cases h
  · cases h

theorem tkL_le (bs : List Int) (ho : Oct bs) (c : Int) (x y : Ins) (a a2 : Nat) (ha : a ≤ bs.length) (h : tkL bs c x a = .ok (y, a2)) : a2 ≤ bs.length := by
  have h0 := takeZ_le 0 1 bs a 0 ho ha
  have h1 := takeZ_le 1 0 bs a 0 ho ha
  have hv := fun a3 d => tkVal_le bs ho a a3 d ha
  unfold tkL at h
  cases ht : tkVal bs bs.length a with
  | error E =>
    rw [ht] at h
    (repeat' split at h) <;> first | (exfalso; simp_all; done) | (injection h with h; injection h with _ h; omega) | (simp_all; done)
  | ok r =>
    obtain ⟨d, a3⟩ := r
    have := hv a3 d ht
    rw [ht] at h
    (repeat' split at h) <;> first | (exfalso; simp_all; done) | (injection h with h; injection h with _ h; omega) | (simp_all; done)

/-- Within the document's Decode: the answer's block, the Reader's, the procedure's. -/
structure Dcs (w W : World) (v : Value) (a : Nat) (e st : Int) (nm : ByteArray) (ar : Int) (S : Value) (r q : Nat) : Prop where
  res : W.heap[w.heap.size]? = some (po emp 0 (.slice none 0 0))
  rr : W.heap[r]? = some (.cells #[v, .int .i64 a, .int .i64 e, .int .i64 st] 85 (0, 0))
  rp : W.heap[q]? = some (po nm ar S)
  lt : w.heap.size < r ∧ r < q
  hb : Below w.heap.size w W

theorem Dcs.below {w W W' : World} {v : Value} {a : Nat} {e st : Int} {nm : ByteArray} {ar : Int} {S : Value} {r q : Nat} (h : Dcs w W v a e st nm ar S r q) (hb : Below W.heap.size W W') : Dcs w W' v a e st nm ar S r q :=
  ⟨blk_of hb h.res (lt_of h.res), blk_of hb h.rr (lt_of h.rr), blk_of hb h.rp (lt_of h.rp), h.lt, below_on h.hb hb⟩

theorem Dcs.reader {w W : World} {v : Value} {a : Nat} {e st : Int} {nm : ByteArray} {ar : Int} {S : Value} {r q : Nat} (h : Dcs w W v a e st nm ar S r q) (v2 : Value) (a2 : Nat) (e2 st2 : Int) : Dcs w (put4 W r v2 (.int .i64 a2) (.int .i64 e2) (.int .i64 st2)) v2 a2 e2 st2 nm ar S r q := by
  have k := put4_kept W r v2 (.int .i64 a2) (.int .i64 e2) (.int .i64 st2)
  have := h.lt
  exact ⟨(k.block _ (lt_of h.res) (by omega)).trans h.res, set4 h.rr _ _ _ _, (k.block _ (lt_of h.rp) (by omega)).trans h.rp, h.lt, h.hb.trans (k.below h.hb.size (fun q hq e => by omega))⟩

theorem Dcs.cell {w W : World} {v : Value} {a : Nat} {e st : Int} {nm nm2 : ByteArray} {ar ar2 : Int} {S S2 : Value} {r q : Nat} (h : Dcs w W v a e st nm ar S r q) (o : Nat) (u : Value) (hy : (W.setCell ⟨q, o, none⟩ u).heap[q]? = some (po nm2 ar2 S2)) : Dcs w (W.setCell ⟨q, o, none⟩ u) v a e st nm2 ar2 S2 r q := by
  have k := (Kept.refl (fun k => k = q) W).setCell (p := ⟨q, o, none⟩) (fun _ => rfl) u
  have := h.lt
  exact ⟨(k.block _ (lt_of h.res) (by omega)).trans h.res, (k.block _ (lt_of h.rr) (by omega)).trans h.rr, hy, h.lt, h.hb.trans (k.below h.hb.size (fun q hq e => by omega))⟩

theorem dcs_start {w w1 : World} (v : Value) (hb : Below (w.alloc (po emp 0 (.slice none 0 0))).heap.size (w.alloc (po emp 0 (.slice none 0 0))) w1) :
    Dcs w ((w1.alloc (.cells #[v, .int .i64 0, .int .i64 0, .int .i64 0] 85)).alloc (po emp 0 (.slice none 0 0))) v 0 0 0 emp 0 (.slice none 0 0) w1.heap.size (w1.heap.size + 1) := by
  have h0 := blk_of hb (heap_alloc_new w (po emp 0 (.slice none 0 0))) (by simp)
  have b2 := below2 w1 (.cells #[v, .int .i64 0, .int .i64 0, .int .i64 0] 85) (po emp 0 (.slice none 0 0))
  exact ⟨blk_of b2 h0 (lt_of h0), two1 w1 _ _, two2 w1 _ _, ⟨lt_of h0, by omega⟩, below_on (below_on (below1 w _) hb) b2⟩

theorem ret18 {fn : Func} {p u : Tmp} (h : fn.results = #[.cell p 24, .tmp u]) {tmps : Array Value} {r : Nat} {w : World} {a b c : Value} (ht : tmps.getD p undef = .pointer (some ⟨r, 0, none⟩)) (hb : w.heap[r]? = some (.cells #[a, b, c] 24 (0, 0))) :
    (results fn tmps).run Try.prog w = .ok (.tuple #[.agg #[a, b, c], tmps.getD u undef]) w := by
  rw [results_cell_tmp h, ht]
  simp [Result.andThen, load24 hb, asAddr]

theorem Dcs.fin {w W : World} {v : Value} {a : Nat} {e st : Int} {nm : ByteArray} {ar : Int} {S : Value} {r q : Nat} (h : Dcs w W v a e st nm ar S r q) (x y z : Value) :
    (((W.setCell ⟨w.heap.size, 0, none⟩ x).setCell ⟨w.heap.size, 1, none⟩ y).setCell ⟨w.heap.size, 2, none⟩ z).heap[w.heap.size]? = some (.cells #[x, y, z] 24 (0, 0)) ∧ Below w.heap.size w (((W.setCell ⟨w.heap.size, 0, none⟩ x).setCell ⟨w.heap.size, 1, none⟩ y).setCell ⟨w.heap.size, 2, none⟩ z) :=
  ⟨set3 h.res x y z, Below.set3 h.hb (Nat.le_refl _) x y z⟩

/-- What the document's Decode leaves. -/
def RDPost (w : World) (r : Except Int (List Int × Int × List Ins)) (e : Ending) (w' : World) : Prop :=
  Below w.heap.size w w' ∧ match r with
  | .ok (nm, ar, xs) => ∃ S, e = .returned (.tuple #[.agg #[.string (mkStr nm), .int .i64 ar, S], .int .i64 0]) ∧ CodeAt w' S xs
  | .error E => e = .returned (.tuple #[.agg #[.string emp, .int .i64 0, .slice none 0 0], .int .i64 E])

end Go.Proofs.Ytljfmbjibjoiiaa

namespace Go.Proofs.Ytljfmbjibjoiiaa
open Go.RowKit Go.Lib

/-- And the instructions read so far. -/
structure Dcl (w W : World) (v : Value) (a : Nat) (e st : Int) (nm : ByteArray) (ar : Int) (S : Value) (r q : Nat) (ys : List Ins) : Prop where
  cs : Dcs w W v a e st nm ar S r q
  ow : W.ownsRow (q + 1) 28 8 S ys.length (ys.flatMap Ins.cells)

theorem Dcl.below {w W W' : World} {v : Value} {a : Nat} {e st : Int} {nm : ByteArray} {ar : Int} {S : Value} {r q : Nat} {ys : List Ins} (h : Dcl w W v a e st nm ar S r q ys) (hb : Below W.heap.size W W') : Dcl w W' v a e st nm ar S r q ys :=
  ⟨h.cs.below hb, ownsRow_kept h.ow (Kept.ofBelow hb) (fun _ _ h => h)⟩

theorem Dcl.reader {w W : World} {v : Value} {a : Nat} {e st : Int} {nm : ByteArray} {ar : Int} {S : Value} {r q : Nat} {ys : List Ins} (h : Dcl w W v a e st nm ar S r q ys) (v2 : Value) (a2 : Nat) (e2 st2 : Int) : Dcl w (put4 W r v2 (.int .i64 a2) (.int .i64 e2) (.int .i64 st2)) v2 a2 e2 st2 nm ar S r q ys :=
  ⟨h.cs.reader v2 a2 e2 st2, ownsRow_kept h.ow (put4_kept W r _ _ _ _) (fun k hk e => by have := (h.ow.lt k hk).1; have := h.cs.lt; omega)⟩

theorem Dcl.code {w W : World} {v : Value} {a : Nat} {e st : Int} {nm : ByteArray} {ar : Int} {S : Value} {r q : Nat} {ys : List Ins} (h : Dcl w W v a e st nm ar S r q ys) : CodeAt W S ys := code_of_rf (rf_of_owns h.ow (all_one _))

theorem Dcl.done {w W : World} {v : Value} {a : Nat} {e st : Int} {nm : ByteArray} {ar : Int} {S : Value} {r q : Nat} {ys : List Ins} (h : Dcl w W v a e st nm ar S r q ys) (x y z : Value) : CodeAt (((W.setCell ⟨w.heap.size, 0, none⟩ x).setCell ⟨w.heap.size, 1, none⟩ y).setCell ⟨w.heap.size, 2, none⟩ z) S ys := by
  have k := (((Kept.refl (fun k => k = w.heap.size) W).setCell (p := ⟨w.heap.size, 0, none⟩) (fun _ => rfl) x).setCell (p := ⟨w.heap.size, 1, none⟩) (fun _ => rfl) y).setCell (p := ⟨w.heap.size, 2, none⟩) (fun _ => rfl) z
  have hlt := h.cs.lt
  exact code_of_rf (rf_of_owns (ownsRow_kept h.ow k (fun j hj e => by have := (h.ow.lt j hj).1; omega)) (all_one _))

theorem Dcl.grown {w W W1 : World} {v : Value} {a : Nat} {e st : Int} {nm : ByteArray} {ar : Int} {S : Value} {r q : Nat} {ys : List Ins} {o : Obj} (h : Dcl w W v a e st nm ar S r q ys) (hg : (W.alloc o).grownBy W1 S.ownBlock) : Dcs w W1 v a e st nm ar S r q := by
  have h1 := h.below (below1 W o)
  have hlt := h.cs.lt
  have hne : ∀ k, k < q + 1 → S.ownBlock ≠ some k := fun k hk e => by have := (h.ow.lt k e).1; omega
  exact ⟨(hg.block _ (lt_of h1.cs.res) (fun e => hne _ (by omega) e.symm)).trans h1.cs.res, (hg.block _ (lt_of h1.cs.rr) (fun e => hne _ (by omega) e.symm)).trans h1.cs.rr, (hg.block _ (lt_of h1.cs.rp) (fun e => hne _ (by omega) e.symm)).trans h1.cs.rp, h1.cs.lt, h1.cs.hb.grown hg h1.cs.hb.size (fun k hk => by have := (h1.ow.lt k hk).1; omega)⟩

theorem Dcl.app {w W W1 : World} {v : Value} {a : Nat} {e st : Int} {nm : ByteArray} {ar : Int} {S S' : Value} {r q : Nat} {ys : List Ins} {x : Ins} {o : Obj} (h : Dcl w W v a e st nm ar S r q ys)
    (hown : W1.ownsRow (q + 1) 28 8 S' (ys.length + 1) (ys.flatMap Ins.cells ++ [x].flatMap Ins.cells)) (hg : (W.alloc o).grownBy W1 S.ownBlock) : Dcl w (W1.setCell ⟨q, 2, none⟩ S') v a e st nm ar S' r q (ys ++ [x]) := by
  have h1 := h.below (below1 W o)
  have hlt := h.cs.lt
  have hne : ∀ k, k < q + 1 → S.ownBlock ≠ some k := fun k hk e => by have := (h.ow.lt k e).1; omega
  have d : Dcs w W1 v a e st nm ar S r q := ⟨(hg.block _ (lt_of h1.cs.res) (fun e => hne _ (by omega) e.symm)).trans h1.cs.res, (hg.block _ (lt_of h1.cs.rr) (fun e => hne _ (by omega) e.symm)).trans h1.cs.rr, (hg.block _ (lt_of h1.cs.rp) (fun e => hne _ (by omega) e.symm)).trans h1.cs.rp, h1.cs.lt, h1.cs.hb.grown hg h1.cs.hb.size (fun k hk => by have := (h1.ow.lt k hk).1; omega)⟩
  have k := (Kept.refl (fun k => k = q) W1).setCell (p := ⟨q, 2, none⟩) (fun _ => rfl) S'
  refine ⟨d.cell 2 S' (po_set2 d.rp), ownsRow_kept ?_ k (fun j hj e => by have := (hown.lt j hj).1; omega)⟩
  rw [List.length_append, List.flatMap_append]
  exact hown

/-- And the instruction that is read now. -/
structure Dcx (w W : World) (v : Value) (a : Nat) (e st : Int) (nm : ByteArray) (ar : Int) (S : Value) (r q : Nat) (ys : List Ins) (rx : Nat) (x : Ins) : Prop where
  cl : Dcl w W v a e st nm ar S r q ys
  xb : W.heap[rx]? = some (io x.op x.a x.b x.c x.n x.k x.i x.t)
  lt : q < rx
  own : ∀ k, S.ownBlock = some k → k < rx

theorem Dcx.below {w W W' : World} {v : Value} {a : Nat} {e st : Int} {nm : ByteArray} {ar : Int} {S : Value} {r q : Nat} {ys : List Ins} {rx : Nat} {x : Ins} (h : Dcx w W v a e st nm ar S r q ys rx x) (hb : Below W.heap.size W W') : Dcx w W' v a e st nm ar S r q ys rx x :=
  ⟨h.cl.below hb, blk_of hb h.xb (lt_of h.xb), h.lt, h.own⟩

theorem dcx_start {w W : World} {v : Value} {a : Nat} {e st : Int} {nm : ByteArray} {ar : Int} {S : Value} {r q : Nat} {ys : List Ins} (h : Dcl w W v a e st nm ar S r q ys) (x : Ins) : Dcx w (W.alloc (io x.op x.a x.b x.c x.n x.k x.i x.t)) v a e st nm ar S r q ys W.heap.size x :=
  ⟨h.below (below1 W _), heap_alloc_new W _, lt_of h.cs.rp, fun k hk => (h.ow.lt k hk).2⟩

theorem Dcx.both {w W : World} {v : Value} {a : Nat} {e st : Int} {nm : ByteArray} {ar : Int} {S : Value} {r q : Nat} {ys : List Ins} {rx : Nat} {x : Ins} (h : Dcx w W v a e st nm ar S r q ys rx x) (v2 : Value) (a2 : Nat) (e2 st2 : Int) (y : Ins) :
    Dcx w (put8 (put4 W r v2 (.int .i64 a2) (.int .i64 e2) (.int .i64 st2)) rx 0 y) v2 a2 e2 st2 nm ar S r q ys rx y := by
  have hlt := h.cl.cs.lt
  have hx := h.lt
  have h1 := h.cl.reader v2 a2 e2 st2
  have x1 := ((put4_kept W r v2 (.int .i64 a2) (.int .i64 e2) (.int .i64 st2)).block _ (lt_of h.xb) (by omega)).trans h.xb
  generalize put4 W r v2 (.int .i64 a2) (.int .i64 e2) (.int .i64 st2) = W1 at h1 x1
  have k := put8_kept W1 rx 0 y
  exact ⟨⟨⟨(k.block _ (lt_of h1.cs.res) (by omega)).trans h1.cs.res, (k.block _ (lt_of h1.cs.rr) (by omega)).trans h1.cs.rr, (k.block _ (lt_of h1.cs.rp) (by omega)).trans h1.cs.rp, h1.cs.lt, h1.cs.hb.trans (k.below h1.cs.hb.size (fun j hj e => by omega))⟩,
    ownsRow_kept h1.ow k (fun j hj e => by have := h.own j hj; omega)⟩, io_set8 x1 y, h.lt, h.own⟩

end Go.Proofs.Ytljfmbjibjoiiaa

namespace Go.Proofs.Ytljfmbjibjoiiaa
open Go.RowKit Go.Lib

theorem st_skip {P : Program} {ops : Array Oper} {w : World} {Q : Act → Prop} {o : Oper} {rest : List Oper} {a : Act} (h : Region.wanted o (yielded ops a.tmps) = false) (k : wpStill P ops w Q rest (a.put o.dst undef)) : wpStill P ops w Q (o :: rest) a := by
  unfold wpStill
  rw [if_neg (by rw [h]; decide)]
  exact k

theorem st_val {P : Program} {ops : Array Oper} {w : World} {Q : Act → Prop} {o : Oper} {rest : List Oper} {a : Act} (v : Value) (h : Region.wanted o (yielded ops a.tmps) = true) (e : (execOp a.eval o).run P w = .ok (.value v) w) (k : wpStill P ops w Q rest (a.put o.dst v)) : wpStill P ops w Q (o :: rest) a := by
  unfold wpStill
  rw [if_pos h]
  unfold Oper.still
  rw [e, Oper.stillUpon_value]
  exact k

theorem exec_neq (F2 : Int) (hF2 : (F2 == 0) = false) (ρ : Operand → Value) (o : Oper) (t x : Nat) (ho : o.op = .binOp BinOp.neq 30 (.tmp x) (.const (.int .i64 0)) t) (hx : ρ (.tmp x) = .int .i64 F2) (hy : ρ (.const (.int .i64 0)) = .int .i64 0) (W : World) : (execOp ρ o).run Try.prog W = .ok (.value (.bool true)) W := by
  unfold execOp
  rw [ho]
  dsimp only
  rw [hx, hy]
  go_simp
  simpa using hF2


theorem ev_self {a : Act} {d : Nat} {v : Value} (h : d < a.tmps.size) : (a.put (some d) v).eval (.tmp d) = v := by simp [Act.put, Act.eval, h]
theorem sz_put {a : Act} {d : Option Nat} {v : Value} {n : Nat} (h : n < a.tmps.size) : n < (a.put d v).tmps.size := by
  cases d <;> simp [Act.put, h]

/-! The operations of the law's last statement. -/
def o0 (s : String) : Oper := { dst := some 87, op := Op.move (Operand.tmp 15), type := 30, pos := s, after := #[], guard := none }
def o1 (s : String) : Oper := { dst := some 88, op := Op.binOp BinOp.neq 30 (Operand.tmp 87) (Operand.const (Value.int IntKind.i64 0)) 30, type := 4, pos := s, after := #[{ on := 0, ground := Ground.data }], guard := none }
def o2 (s : String) : Oper := { dst := some 89, op := Op.move (Operand.tmp 88), type := 4, pos := s, after := #[{ on := 1, ground := Ground.data }], guard := none }
def o3 (s : String) : Oper := { dst := some 90, op := Op.move (Operand.tmp 9), type := 38, pos := s, after := #[{ on := 2, ground := Ground.guard }], guard := some (2, false) }
def o4 (s : String) : Oper := { dst := some 91, op := Op.move (Operand.tmp 14), type := 38, pos := s, after := #[{ on := 2, ground := Ground.guard }], guard := some (2, false) }
def o5 (s : String) : Oper := { dst := some 92, op := Op.call { callee := Callee.value (Operand.func 16), args := #[Operand.tmp 90, Operand.tmp 91], argTypes := #[38, 38] }, type := 4, pos := s, after := #[{ on := 3, ground := Ground.data }, { on := 4, ground := Ground.data }, { on := 2, ground := Ground.chain }, { on := 2, ground := Ground.guard }], guard := some (2, false) }
def o6 (s : String) : Oper := { dst := some 93, op := Op.load 28 (Operand.tmp 4), type := 28, pos := s, after := #[{ on := 2, ground := Ground.guard }], guard := some (2, false) }
def o7 (s : String) : Oper := { dst := some 94, op := Op.fieldAddr 24 (Operand.tmp 3) 2, type := 0, pos := s, after := #[{ on := 2, ground := Ground.guard }], guard := some (2, false) }
def o8 (s : String) : Oper := { dst := some 95, op := Op.load 22 (Operand.tmp 94), type := 22, pos := s, after := #[{ on := 7, ground := Ground.data }, { on := 2, ground := Ground.guard }], guard := some (2, false) }
def o9 (s : String) : Oper := { dst := some 96, op := Op.move (Operand.tmp 2), type := 3, pos := s, after := #[{ on := 2, ground := Ground.guard }], guard := some (2, false) }
def o10 (s : String) : Oper := { dst := some 97, op := Op.indexAddr 22 (Operand.tmp 95) (Operand.tmp 96), type := 0, pos := s, after := #[{ on := 8, ground := Ground.data }, { on := 9, ground := Ground.data }, { on := 2, ground := Ground.guard }], guard := some (2, false) }
def o11 (s : String) : Oper := { dst := some 98, op := Op.load 28 (Operand.tmp 97), type := 28, pos := s, after := #[{ on := 10, ground := Ground.data }, { on := 2, ground := Ground.guard }], guard := some (2, false) }
def o12 (s : String) : Oper := { dst := some 99, op := Op.binOp BinOp.eql 28 (Operand.tmp 93) (Operand.tmp 98) 28, type := 4, pos := s, after := #[{ on := 6, ground := Ground.data }, { on := 11, ground := Ground.data }, { on := 2, ground := Ground.guard }], guard := some (2, false) }
def o13 (s : String) : Oper := { dst := some 100, op := Op.binOp BinOp.eql 4 (Operand.tmp 92) (Operand.tmp 99) 4, type := 4, pos := s, after := #[{ on := 5, ground := Ground.data }, { on := 12, ground := Ground.data }, { on := 2, ground := Ground.guard }], guard := some (2, false) }
def o14 (s : String) : Oper := { dst := some 101, op := Op.pick (Operand.tmp 89) (Operand.const (Value.bool true)) (Operand.tmp 100), type := 4, pos := s, after := #[{ on := 2, ground := Ground.data }, { on := 13, ground := Ground.data }], guard := none }
def o15 (s : String) : Oper := { dst := some 102, op := Op.move (Operand.tmp 101), type := 4, pos := s, after := #[{ on := 14, ground := Ground.data }, { on := 5, ground := Ground.chain }], guard := none }
def o16 (s : String) : Oper := { dst := some 103, op := Op.call { callee := Callee.value (Operand.func 13), args := #[], argTypes := #[] }, type := 4, pos := s, after := #[{ on := 15, ground := Ground.chain }, { on := 15, ground := Ground.guard }], guard := some (15, true) }
def o17 (s : String) : Oper := { dst := some 104, op := Op.pick (Operand.tmp 102) (Operand.tmp 103) (Operand.const (Value.bool false)), type := 4, pos := s, after := #[{ on := 15, ground := Ground.data }, { on := 16, ground := Ground.data }], guard := none }
def o18 (s : String) : Oper := { dst := some 6, op := Op.assign (Operand.tmp 104), type := 4, pos := s, after := #[{ on := 17, ground := Ground.data }, { on := 16, ground := Ground.chain }, { on := 0, ground := Ground.phase }, { on := 1, ground := Ground.phase }, { on := 2, ground := Ground.phase }, { on := 3, ground := Ground.phase }, { on := 4, ground := Ground.phase }, { on := 5, ground := Ground.phase }, { on := 6, ground := Ground.phase }, { on := 7, ground := Ground.phase }, { on := 8, ground := Ground.phase }, { on := 9, ground := Ground.phase }, { on := 10, ground := Ground.phase }, { on := 11, ground := Ground.phase }, { on := 12, ground := Ground.phase }, { on := 13, ground := Ground.phase }, { on := 14, ground := Ground.phase }, { on := 15, ground := Ground.phase }, { on := 16, ground := Ground.phase }, { on := 17, ground := Ground.phase }], guard := none }
def ops20 (s : String) : List Oper := [o0 s, o1 s, o2 s, o3 s, o4 s, o5 s, o6 s, o7 s, o8 s, o9 s, o10 s, o11 s, o12 s, o13 s, o14 s, o15 s, o16 s, o17 s, o18 s]

theorem y_of {s : String} {a : Act} {b : Bool} (h : a.tmps[89]? = some (.bool b)) : yielded (ops20 s).toArray a.tmps 2 = some b := by
  unfold yielded
  rw [show ((ops20 s).toArray[2]?).bind (·.dst) = some 89 from rfl]
  simp [h]

theorem t_self {a : Act} {d : Nat} {v : Value} (h : d < a.tmps.size) : (a.put (some d) v).tmps[d]? = some v := by simp [Act.put, h]

theorem t_put {a : Act} {d : Nat} {v x : Value} (hd : 89 ≠ d) (h : a.tmps[89]? = some x) : (a.put (some d) v).tmps[89]? = some x := by
  simp only [Act.put]
  rw [Array.getElem?_setIfInBounds_ne (by omega)]
  exact h

theorem no20 {s : String} {a : Act} {o : Oper} (h : a.tmps[89]? = some (.bool true)) (ho : o.guard = some (2, false)) : Region.wanted o (yielded (ops20 s).toArray a.tmps) = false := by
  unfold Region.wanted
  rw [ho]
  simp [y_of h]

theorem pick20 {a : Act} {o : Oper} {W : World} {t : Nat} (h : a.tmps[89]? = some (.bool true)) (ho : o.op = .pick (.tmp 89) (.const (.bool true)) (.tmp t) := by rfl) : (execOp a.eval o).run Try.prog W = .ok (.value (.bool true)) W := by
  have e : a.eval (.tmp 89) = .bool true := by simp [Act.eval, h]
  unfold execOp
  rw [ho]
  dsimp only
  rw [e]
  rfl

theorem mov20 {a : Act} {o : Oper} {W : World} (h : 101 < a.tmps.size) (ho : o.op = .move (.tmp 101) := by rfl) : (execOp (a.put (some 101) (.bool true)).eval o).run Try.prog W = .ok (.value (.bool true)) W := by
  have e : (a.put (some 101) (.bool true)).eval (.tmp 101) = .bool true := ev_self h
  unfold execOp
  rw [ho]
  dsimp only
  rw [e]
  rfl

theorem sk20 {P : Program} {ops : Array Oper} {w : World} {Q : Act → Prop} {o : Oper} {rest : List Oper} {a : Act} (d : Nat) (hd : o.dst = some d) (h : Region.wanted o (yielded ops a.tmps) = false) (k : wpStill P ops w Q rest (a.put (some d) undef)) : wpStill P ops w Q (o :: rest) a := st_skip h (by rw [hd]; exact k)
theorem vl20 {P : Program} {ops : Array Oper} {w : World} {Q : Act → Prop} {o : Oper} {rest : List Oper} {a : Act} (d : Nat) (v : Value) (hd : o.dst = some d) (hg : o.guard = none) (e : (execOp a.eval o).run P w = .ok (.value v) w) (k : wpStill P ops w Q rest (a.put (some d) v)) : wpStill P ops w Q (o :: rest) a := st_val v (by unfold Region.wanted; rw [hg]) e (by rw [hd]; exact k)

theorem mv20 {a : Act} {o : Oper} {W : World} {v : Value} (t : Nat) (ho : o.op = .move (.tmp t)) (e : a.eval (.tmp t) = v) : (execOp a.eval o).run Try.prog W = .ok (.value v) W := by
  unfold execOp
  rw [ho]
  dsimp only
  rw [e]
  rfl

/-- The eleven that are struck out. -/
def putL (L : List Oper) (a : Act) : Act := L.foldl (fun a o => a.put o.dst undef) a
def L11 (s : String) : List Oper := [o3 s, o4 s, o5 s, o6 s, o7 s, o8 s, o9 s, o10 s, o11 s, o12 s, o13 s]

theorem mid20 (s : String) (W : World) (Q : Act → Prop) (rest : List Oper) : ∀ (L : List Oper) (a : Act), (∀ o ∈ L, o.guard = some (2, false) ∧ ∃ d, o.dst = some d ∧ 89 ≠ d) → a.tmps[89]? = some (.bool true) → wpStill Try.prog (ops20 s).toArray W Q rest (putL L a) → wpStill Try.prog (ops20 s).toArray W Q (L ++ rest) a
  | [], _, _, _, hk => hk
  | o :: L, a, h, t, hk => by
    obtain ⟨hg, d, hd, hn⟩ := h o List.mem_cons_self
    refine sk20 d hd (no20 t hg) ?_
    refine mid20 s W Q rest L _ (fun o' ho' => h o' (List.mem_cons_of_mem _ ho')) (t_put hn t) ?_
    have e : putL (o :: L) a = putL L (a.put (some d) undef) := by unfold putL; rw [List.foldl_cons, hd]
    rw [← e]
    exact hk

theorem putL_at : ∀ (L : List Oper) (a : Act), (∀ o ∈ L, o.guard = some (2, false) ∧ ∃ d, o.dst = some d ∧ 89 ≠ d) → a.tmps[89]? = some (.bool true) → (putL L a).tmps[89]? = some (.bool true)
  | [], _, _, t => t
  | o :: L, a, h, t => by
    obtain ⟨_, d, hd, hn⟩ := h o List.mem_cons_self
    have e : putL (o :: L) a = putL L (a.put (some d) undef) := by unfold putL; rw [List.foldl_cons, hd]
    rw [e]
    exact putL_at L _ (fun o' ho' => h o' (List.mem_cons_of_mem _ ho')) (t_put hn t)

theorem putL_sz (n : Nat) : ∀ (L : List Oper) (a : Act), n < a.tmps.size → n < (putL L a).tmps.size
  | [], _, h => h
  | o :: L, a, h => by
    have e : putL (o :: L) a = putL L (a.put o.dst undef) := rfl
    rw [e]
    exact putL_sz n L _ (sz_put h)

theorem L11_ok (s : String) : ∀ o ∈ L11 s, o.guard = some (2, false) ∧ ∃ d, o.dst = some d ∧ 89 ≠ d := by
  intro o ho
  simp only [L11, List.mem_cons, List.not_mem_nil, or_false] at ho
  rcases ho with rfl | rfl | rfl | rfl | rfl | rfl | rfl | rfl | rfl | rfl | rfl
  · exact ⟨rfl, 90, rfl, by decide⟩
  · exact ⟨rfl, 91, rfl, by decide⟩
  · exact ⟨rfl, 92, rfl, by decide⟩
  · exact ⟨rfl, 93, rfl, by decide⟩
  · exact ⟨rfl, 94, rfl, by decide⟩
  · exact ⟨rfl, 95, rfl, by decide⟩
  · exact ⟨rfl, 96, rfl, by decide⟩
  · exact ⟨rfl, 97, rfl, by decide⟩
  · exact ⟨rfl, 98, rfl, by decide⟩
  · exact ⟨rfl, 99, rfl, by decide⟩
  · exact ⟨rfl, 100, rfl, by decide⟩

def a3 (a : Act) (F2 : Int) : Act := ((a.put (some 87) (.int .i64 F2)).put (some 88) (.bool true)).put (some 89) (.bool true)
def a16 (s : String) (a : Act) (F2 : Int) : Act := ((putL (L11 s) (a3 a F2)).put (some 101) (.bool true)).put (some 102) (.bool true)

theorem pre20 (s : String) (a : Act) (W : World) (F2 : Int) (hF2 : (F2 == 0) = false) (hs : 104 < a.tmps.size) (h15 : a.eval (.tmp 15) = .int .i64 F2) (Q : Act → Prop) (rest : List Oper) (hk : wpStill Try.prog (ops20 s).toArray W Q rest (a3 a F2)) : wpStill Try.prog (ops20 s).toArray W Q (o0 s :: o1 s :: o2 s :: rest) a := by
  refine vl20 87 (.int .i64 F2) rfl rfl (mv20 15 rfl h15) ?_
  have h87 : (a.put (some 87) (.int .i64 F2)).eval (.tmp 87) = .int .i64 F2 := ev_self (by omega)
  have h88 : 88 < (a.put (some 87) (.int .i64 F2)).tmps.size := sz_put (by omega)
  unfold a3 at hk
  generalize a.put (some 87) (.int .i64 F2) = b at *
  refine vl20 88 (.bool true) rfl rfl (exec_neq F2 hF2 _ _ _ 87 rfl h87 rfl _) ?_
  have h89 : (b.put (some 88) (.bool true)).eval (.tmp 88) = .bool true := ev_self h88
  generalize b.put (some 88) (.bool true) = c at *
  exact vl20 89 (.bool true) rfl rfl (mv20 88 rfl h89) hk

theorem post20 (s : String) (b : Act) (W : World) (Q : Act → Prop) (t : b.tmps[89]? = some (.bool true)) (hz : 101 < b.tmps.size) (hQ : Q ((b.put (some 101) (.bool true)).put (some 102) (.bool true))) : wpStill Try.prog (ops20 s).toArray W Q [o14 s, o15 s] b := by
  refine vl20 101 (.bool true) rfl rfl (pick20 t rfl) ?_
  have h1 : (b.put (some 101) (.bool true)).eval (.tmp 101) = .bool true := ev_self hz
  generalize b.put (some 101) (.bool true) = c at *
  exact vl20 102 (.bool true) rfl rfl (mv20 101 rfl h1) (wpStill_nil hQ)

theorem take20 (s : String) : (ops20 s).take 16 = o0 s :: o1 s :: o2 s :: (L11 s ++ [o14 s, o15 s]) := rfl

theorem head20 (s : String) (a : Act) (W : World) (F2 : Int) (hF2 : (F2 == 0) = false) (hs : 104 < a.tmps.size) (h15 : a.eval (.tmp 15) = .int .i64 F2) (Q : Act → Prop) (hQ : Q (a16 s a F2)) : wpStill Try.prog (ops20 s).toArray W Q ((ops20 s).take 16) a := by
  have h89 : 89 < ((a.put (some 87) (.int .i64 F2)).put (some 88) (.bool true)).tmps.size := sz_put (sz_put (by omega))
  have t : (a3 a F2).tmps[89]? = some (.bool true) := t_self h89
  have hz : 101 < (a3 a F2).tmps.size := sz_put (sz_put (sz_put (by omega)))
  rw [take20]
  refine pre20 s a W F2 hF2 hs h15 Q _ ?_
  unfold a16 at hQ
  generalize a3 a F2 = b at *
  refine mid20 s W Q _ (L11 s) b (L11_ok s) t ?_
  have t2 := putL_at _ _ (L11_ok s) t
  have z2 := putL_sz _ (L11 s) _ hz
  generalize putL (L11 s) b = c at *
  exact post20 s c W Q t2 z2 hQ

end Go.Proofs.Ytljfmbjibjoiiaa
