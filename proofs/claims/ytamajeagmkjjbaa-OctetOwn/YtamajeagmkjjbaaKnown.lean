import Derived.Test.YtamajeagmkjjbaaB2
namespace Go.Proofs.Ytamajeagmkjjbaa
open Go.RowKit

def want : List Int := [172, 2, 1, 4, 107, 101, 101, 108, 2, 1, 7]

theorem k1 : wnumZ ([], 0) 300 = ([172, 2], 0) := by decide
theorem k2 : wintZ ([172, 2], 0) (-1) = ([172, 2, 1], 0) := by decide
theorem k3 : wtextZ ([172, 2, 1], 0) (strBs ⟨#[107, 101, 101, 108]⟩) = ([172, 2, 1, 4, 107, 101, 101, 108], 0) := by decide
theorem k4 : wfixZ ([172, 2, 1, 4, 107, 101, 101, 108], 0) 258 2 = ([172, 2, 1, 4, 107, 101, 101, 108, 2, 1], 0) := by decide
theorem k5 : wfixZ ([172, 2, 1, 4, 107, 101, 101, 108, 2, 1], 0) 7 1 = (want, 0) := by decide
theorem k6 : wnumZ (want, 0) (-1) = (want, 15) := by decide
theorem r1 : takeZ 1 0 want 0 0 = ((300, []), 2, 0) := by decide
theorem r2 : takeZ 2 0 want 2 0 = ((1, []), 3, 0) := by decide
theorem r3 : takeZ 3 4 want 3 0 = ((4, [107, 101, 101, 108]), 8, 0) := by decide
theorem r4 : takeZ 0 2 want 8 0 = ((258, []), 10, 0) := by decide
theorem r5 : takeZ 0 1 want 10 0 = ((7, []), 11, 0) := by decide
theorem r6 : takeZ 0 1 want 11 0 = ((0, []), 11, 2) := by decide
theorem s1 : mkStr [107, 101, 101, 108] = ⟨#[107, 101, 101, 108]⟩ := by decide
theorem want_oct : Oct want := by unfold Oct; decide

/-- A Writer on its own, over the world w0. -/
def WS (B p : Nat) (w0 w : World) (bs : List Int) (e : Int) : Prop := ∃ g, Wr B w p g bs e ∧ Below B w0 w ∧ B ≤ p ∧ B ≤ w.heap.size

theorem WS.step {B p : Nat} {w0 w w' : World} {bs bs2 : List Int} {e e2 : Int} {g : Option Nat} (hw : Wr B w p g bs e) (hb : Below B w0 w) (hp : B ≤ p) (hB : B ≤ w.heap.size) (h : WrStep B p g w w' bs2 e2) : WS B p w0 w' bs2 e2 := by
  obtain ⟨g', a, _, c⟩ := h
  refine ⟨g', a, hb.trans (c.below hB ?_), hp, Nat.le_trans hB c.size⟩
  intro k hk hs
  rcases hs with hs | hs
  · omega
  · have := hw.glt k hs; omega

/-- The Writer (block p, data g), the Reader (block q, bytes in gq) and the bytes in m, each its own. -/
structure KS (B : Nat) (w0 w : World) (p : Nat) (g : Option Nat) (q gq m : Nat) (e : Int) (a : Nat) (er : Int) : Prop where
  wr : Wr B w p g want e
  rd : Rd w q (some gq) want a er
  own : Own w m want
  below : Below B w0 w
  ge : B ≤ p ∧ B ≤ q ∧ B ≤ w.heap.size
  ne : p ≠ q ∧ p ≠ gq ∧ p ≠ m ∧ q ≠ m ∧ ∀ k, g = some k → k ≠ q ∧ k ≠ gq ∧ k ≠ m
  lt : q < w.heap.size ∧ gq < w.heap.size

theorem Rd.kept {w w' : World} {p : Nat} {g : Option Nat} {bs : List Int} {a : Nat} {e : Int} {S : Nat → Prop} (h : Rd w p g bs a e) (hk : Kept S w w') (hp : ¬ S p) (hg : ∀ k, g = some k → ¬ S k) : Rd w' p g bs a e := by
  obtain ⟨v, h1, h2, h3, h4⟩ := h
  refine ⟨v, ?_, h2, h3.kept hk (fun k hj => hg k (by rw [← h2]; exact hj)), h4⟩
  rw [hk.block p (Array.getElem?_eq_some_iff.1 h1).1 hp]
  exact h1

theorem KS.still {B : Nat} {w0 w w' : World} {p : Nat} {g : Option Nat} {q gq m : Nat} {e : Int} {a : Nat} {er : Int} (h : KS B w0 w p g q gq m e a er) (hb : Below w.heap.size w w') : KS B w0 w' p g q gq m e a er := by
  have hk := Kept.ofBelow hb
  exact ⟨h.wr.kept hk (fun h => h) (fun _ _ h => h), h.rd.kept hk (fun h => h) (fun _ _ h => h), h.own.kept hk (fun h => h), h.below.trans (hb.mono h.ge.2.2), ⟨h.ge.1, h.ge.2.1, Nat.le_trans h.ge.2.2 hb.size⟩, h.ne, ⟨Nat.lt_of_lt_of_le h.lt.1 hb.size, Nat.lt_of_lt_of_le h.lt.2 hb.size⟩⟩

theorem below_drewN (w : World) (n B : Nat) : Below B w (w.drewN n) := ⟨rfl, rfl, rfl, Nat.le_refl _, fun _ _ => rfl⟩

theorem KS.dn {B : Nat} {w0 w w' : World} {p : Nat} {g : Option Nat} {q gq m : Nat} {e : Int} {a : Nat} {er : Int} (h : KS B w0 w p g q gq m e a er) (hd : DN w w') : KS B w0 w' p g q gq m e a er := by
  obtain ⟨n, rfl⟩ := hd
  exact h.still (below_drewN _ _ _)

theorem KS.read {B : Nat} {w0 w w' : World} {p : Nat} {g : Option Nat} {q gq m : Nat} {e : Int} {a : Nat} {er : Int} (h : KS B w0 w p g q gq m e a er) {a2 : Nat} {e2 : Int} (hs : RdStep q (some gq) w w' want a2 e2) : KS B w0 w' p g q gq m e a2 e2 := by
  obtain ⟨h1, hk⟩ := hs
  obtain ⟨n1, n2, n3, n4, n5⟩ := h.ne
  have hb : Below B w w' := hk.below h.ge.2.2 (fun k hk e => by have := h.ge.2.1; omega)
  exact ⟨h.wr.kept hk (fun e => n1 e) (fun k hg e => (n5 k hg).1 e), h1, h.own.kept hk (fun e => n4 e.symm), h.below.trans hb, ⟨h.ge.1, h.ge.2.1, Nat.le_trans h.ge.2.2 hk.size⟩, h.ne, ⟨Nat.lt_of_lt_of_le h.lt.1 hk.size, Nat.lt_of_lt_of_le h.lt.2 hk.size⟩⟩

theorem KS.write {B : Nat} {w0 w w' : World} {p : Nat} {g : Option Nat} {q gq m : Nat} {e : Int} {a : Nat} {er : Int} (h : KS B w0 w p g q gq m e a er) {e2 : Int} (hs : WrStep B p g w w' want e2) : ∃ g', KS B w0 w' p g' q gq m e2 a er := by
  obtain ⟨g', h1, hg, hk⟩ := hs
  obtain ⟨n1, n2, n3, n4, n5⟩ := h.ne
  have hm := h.own.lt
  have hb : Below B w w' := hk.below h.ge.2.2 (fun k hk e => by rcases e with e | e; (have := h.ge.1; omega); (have := h.wr.glt k e; omega))
  refine ⟨g', h1, h.rd.kept hk ?_ ?_, h.own.kept hk ?_, h.below.trans hb, ⟨h.ge.1, h.ge.2.1, Nat.le_trans h.ge.2.2 hk.size⟩, ⟨n1, n2, n3, n4, ?_⟩, ⟨Nat.lt_of_lt_of_le h.lt.1 hk.size, Nat.lt_of_lt_of_le h.lt.2 hk.size⟩⟩
  · rintro (e | e)
    · exact n1 e.symm
    · exact (n5 q e).1 rfl
  · rintro k hk2 (e | e)
    · injection hk2 with hk2; exact n2 (by omega)
    · injection hk2 with hk2; exact (n5 k e).2.1 (by omega)
  · rintro (e | e)
    · exact n3 e.symm
    · exact (n5 m e).2.2 rfl
  · intro k hk2
    rcases hg with rfl | ⟨j, h2, rfl⟩
    · exact n5 k hk2
    · injection hk2 with hk2
      have := h.lt
      omega

set_option maxRecDepth 100000 in
set_option maxHeartbeats 3200000 in
theorem known_any (w : World) : Calls Try.prog 10 #[] w fun x w' => x = .returned (.bool true) ∧ Below w.heap.size w w' := by
  have hw1 : WS w.heap.size w.heap.size w (w.alloc (.cells #[.slice none 0 0, .int .i64 0] 29)) [] 0 :=
    ⟨none, wr_new _ w (Nat.le_refl _), (Below.refl _ _).alloc (Nat.le_refl _) _, Nat.le_refl _, by simp⟩
  have HW := hid hw1
  clear hw1
  go_enter Try.func10, Try.ntmps10
  go_wp2_with fail
  obtain ⟨g, q1, q2, q3, q4⟩ := HW.out
  refine (wnum_any _ _ g [] 0 _ 300 q1 q4 (by omega) (by simp)).mono ?_
  rintro x w1 ⟨rfl, hs⟩
  rw [k1] at hs
  have H1 := hid (WS.step q1 q2 q3 q4 hs)
  clear hs q1 q2 q3 q4 HW g
  go_wp2_with fail
  obtain ⟨g, q1, q2, q3, q4⟩ := H1.out
  refine (wint_any _ _ g _ 0 _ (-1) q1 q4 (by omega) (by omega) (by simp)).mono ?_
  rintro x w2 ⟨rfl, hs⟩
  rw [k2] at hs
  have H2 := hid (WS.step q1 q2 q3 q4 hs)
  clear hs q1 q2 q3 q4 H1 g
  go_wp2_with fail
  obtain ⟨g, q1, q2, q3, q4⟩ := H2.out
  refine (wtext_any _ _ g _ 0 _ _ q1 q4 (by decide) (by simp)).mono ?_
  rintro x w3 ⟨rfl, hs⟩
  rw [k3] at hs
  have H3 := hid (WS.step q1 q2 q3 q4 hs)
  clear hs q1 q2 q3 q4 H2 g
  go_wp2_with fail
  obtain ⟨g, q1, q2, q3, q4⟩ := H3.out
  refine (wfixed_any _ _ g _ 0 _ 258 2 q1 q4 (by omega) (by omega) (by simp)).mono ?_
  rintro x w4 ⟨rfl, hs⟩
  rw [k4] at hs
  have H4 := hid (WS.step q1 q2 q3 q4 hs)
  clear hs q1 q2 q3 q4 H3 g
  go_wp2_with fail
  obtain ⟨g, q1, q2, q3, q4⟩ := H4.out
  refine (wbyte_any _ _ g _ 0 _ 7 q1 q4 (by omega) (by omega) (by simp)).mono ?_
  rintro x w5 ⟨rfl, hs⟩
  rw [k5] at hs
  have H5 := hid (WS.step q1 q2 q3 q4 hs)
  clear hs q1 q2 q3 q4 H4 g
  go_wp2_with fail
  have e6 : (w5.alloc (.cells #[.int .u8 172, .int .u8 2, .int .u8 1, .int .u8 4, .int .u8 107, .int .u8 101, .int .u8 101, .int .u8 108, .int .u8 2, .int .u8 1, .int .u8 7] 5)).heap.size = w5.heap.size + 1 := by simp
  have o6 : Own (w5.alloc (.cells #[.int .u8 172, .int .u8 2, .int .u8 1, .int .u8 4, .int .u8 107, .int .u8 101, .int .u8 101, .int .u8 108, .int .u8 2, .int .u8 1, .int .u8 7] 5)) w5.heap.size want := heap_alloc_new w5 _
  have b6 : Below w5.heap.size w5 (w5.alloc (.cells #[.int .u8 172, .int .u8 2, .int .u8 1, .int .u8 4, .int .u8 107, .int .u8 101, .int .u8 101, .int .u8 108, .int .u8 2, .int .u8 1, .int .u8 7] 5)) := (Below.refl _ _).alloc (Nat.le_refl _) _
  obtain ⟨g, q1, q2, q3, q4⟩ := H5.out
  have hp := q1.lt
  have hgl := q1.glt
  refine (read_any _ want _ (o6.sl (by decide)) want_oct (by decide)).mono ?_
  rintro x w7 ⟨q, rfl, hq, hrd, hb7⟩
  rw [e6] at hq hrd
  have hb7' := hb7.size
  rw [e6] at hb7'
  have hql : q < w7.heap.size := by obtain ⟨v, h1, _⟩ := hrd; exact (Array.getElem?_eq_some_iff.1 h1).1
  have K7 : KS w.heap.size w w7 w.heap.size g q (w5.heap.size + 1) w5.heap.size 0 0 0 :=
    ⟨(q1.kept (Kept.ofBelow b6) (fun h => h) (fun _ _ h => h)).kept (Kept.ofBelow hb7) (fun h => h) (fun _ _ h => h), hrd, o6.kept (Kept.ofBelow hb7) (fun h => h), (q2.trans (b6.mono q4)).trans (hb7.mono (by rw [e6]; omega)),
      ⟨Nat.le_refl _, by omega, by omega⟩, ⟨by omega, by omega, by omega, by omega, fun k hk => by have := hgl k hk; omega⟩, ⟨hql, by omega⟩⟩
  obtain ⟨m, hm⟩ : ∃ m, m = w5.heap.size := ⟨_, rfl⟩
  obtain ⟨gq, hgq⟩ : ∃ gq, gq = w5.heap.size + 1 := ⟨_, rfl⟩
  rw [← hgq, ← hm] at K7
  rw [← hm]
  have HK := hid K7
  clear K7 hb7 hb7' hrd hq e6 o6 b6 q1 q2 q3 q4 hp hgl hql H5 hm hgq
  go_wp2_with fail
  refine (wdata_any _ _ g want 0 _ HK.out.wr (by decide)).mono ?_
  rintro x w8 ⟨rfl, ho8, hb8⟩
  have K8 := HK.out.still hb8
  have hs8 := ho8.sl (by decide)
  have hm8 := K8.own.sl (by decide)
  obtain ⟨dv, hdv⟩ : ∃ dv, dv = Value.slice (some ⟨w7.heap.size, 0, none⟩) want.length want.length := ⟨_, rfl⟩
  rw [← hdv]
  rw [← hdv] at hs8
  have HK8 := hid K8
  have HD := hid hs8
  have HM := hid hm8
  clear K8 hs8 hm8 ho8 hb8 HK hdv
  go_wp2_with fail
  refine (bytes_any _ _ want want _ HD.out HM.out (by decide)).mono ?_
  rintro x w9 ⟨hd9, rfl⟩
  have HK := hid (HK8.out.dn hd9)
  rw [show decide (want = want) = true by decide]
  clear HK8 HD HM hd9
  go_wp2_with fail
  refine (werr_any _ _ g want 0 _ HK.out.wr).mono ?_
  rintro x w10 ⟨rfl, hw10⟩
  subst hw10
  go_wp2_with fail
  refine (left_any _ _ want _ _ _ HK.out.rd).mono ?_
  rintro x w11 ⟨hd, rfl⟩
  have HK2 := hid (HK.out.dn hd)
  clear HK hd
  rw [show ((want.length : Int) - ((0 : Nat) : Int)) = 11 by decide]
  go_wp2_with fail
  refine (rnum_any _ _ want _ _ _ HK2.out.rd).mono ?_
  rintro x w12 ⟨hs, rfl⟩
  rw [r1] at hs
  rw [r1]
  have HK := hid (HK2.out.read hs)
  clear HK2 hs
  go_wp2_with fail
  refine (rint_any _ _ want _ _ _ HK.out.rd).mono ?_
  rintro x w13 ⟨hs, rfl⟩
  rw [r2] at hs
  rw [r2, show unfoldZ 1 = -1 by decide]
  have HK2 := hid (HK.out.read hs)
  clear HK hs
  go_wp2_with fail
  refine (rtext_any _ _ want _ _ 4 _ HK2.out.rd (by omega) (by omega)).mono ?_
  rintro x w14 ⟨hs, rfl⟩
  rw [r3] at hs
  rw [r3, s1]
  have HK := hid (HK2.out.read hs)
  clear HK2 hs
  go_wp2_with fail
  refine (rfixed_any _ _ want _ _ 2 _ HK.out.rd (by omega) (by omega)).mono ?_
  rintro x w15 ⟨hs, rfl⟩
  rw [r4] at hs
  rw [r4]
  have HK2 := hid (HK.out.read hs)
  clear HK hs
  go_wp2_with fail
  refine (end_any _ _ want _ _ _ HK2.out.rd).mono ?_
  rintro x w16 ⟨hd, rfl⟩
  rw [show endZ want.length 10 0 = 3 by decide]
  have HK := hid (HK2.out.dn hd)
  clear HK2 hd
  go_wp2_with fail
  refine (rbyte_any _ _ want _ _ _ HK.out.rd).mono ?_
  rintro x w17 ⟨hs, rfl⟩
  rw [r5] at hs
  rw [r5]
  have HK2 := hid (HK.out.read hs)
  clear HK hs
  go_wp2_with fail
  refine (end_any _ _ want _ _ _ HK2.out.rd).mono ?_
  rintro x w18 ⟨hd, rfl⟩
  rw [show endZ want.length 11 0 = 0 by decide]
  have HK := hid (HK2.out.dn hd)
  clear HK2 hd
  go_wp2_with fail
  refine (wnum_any _ _ g want 0 _ (-1) HK.out.wr HK.out.ge.2.2 (by omega) (by decide)).mono ?_
  rintro x w19 ⟨rfl, hs⟩
  rw [k6] at hs
  obtain ⟨g2, K19⟩ := HK.out.write hs
  have HK2 := hid K19
  clear HK hs K19
  go_wp2_with fail
  refine (werr_any _ _ g2 want 15 _ HK2.out.wr).mono ?_
  rintro x w20 ⟨rfl, hw20⟩
  subst hw20
  go_wp2_with fail
  refine (rbyte_any _ _ want _ _ _ HK2.out.rd).mono ?_
  rintro x w21 ⟨hs, rfl⟩
  rw [r6] at hs
  rw [r6]
  have HK := hid (HK2.out.read hs)
  clear HK2 hs
  go_wp2_with fail
  refine (end_any _ _ want _ _ _ HK.out.rd).mono ?_
  rintro x w22 ⟨hd, rfl⟩
  rw [show endZ want.length 11 2 = 2 by decide]
  have HK2 := hid (HK.out.dn hd)
  clear HK hd
  go_wp2
  go_ret
  exact ⟨rfl, HK2.out.below⟩

end Go.Proofs.Ytamajeagmkjjbaa
