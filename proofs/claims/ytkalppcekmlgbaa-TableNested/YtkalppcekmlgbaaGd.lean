import Derived.Test.YtkalppcekmlgbaaGc
namespace Go.Proofs.Ytkalppcekmlgbaa
open Go.RowKit

theorem It.sq {B : Nat} {w w' : World} {o : Option Addr} {t : Tr} {b : Nat} {vl : Value} {l : List Pr} {t' : Tr} {vl' : Value} {l' : List Pr} {d g1 g2 g3 : Nat} {frm to : ByteArray} {o' : Option Addr} (hi : It w g1 g2 g3 o' frm to) (h : St B w o t b vl l) (hs : Sq B w w' o t b vl l t' vl' l' d) : It w' g1 g2 g3 o' frm to :=
  ⟨hp_kept hi.t hs.kp (h.notft hi.t (by decide)), hp_kept hi.f hs.kp (h.notft hi.f (by decide)), hp_kept hi.e hs.kp (h.notft hi.e (by decide))⟩

/-- An argument's list: in every world behind the start. -/
def Ar (w : World) (v : Value) (xs : List Sx) : Prop := Rf w 5 v xs.length (xs.flatMap Sx.cells) ∧ ∀ x ∈ xs, x.key.size ≤ 281474976710656 ∧ x.to.size ≤ 281474976710656

set_option maxRecDepth 100000 in
set_option maxHeartbeats 8000000 in
theorem ranges_any (sv body later : Value) (ys xs zs : List Sx) (frm to : ByteArray) (stop : Int) (w : World) (hsv : Ar w sv ys) (hbd : Ar w body xs) (hlt : Ar w later zs) (hf : frm.size ≤ 281474976710656) (ht : to.size ≤ 281474976710656) :
    Calls Try.prog 4 #[sv, .string frm, .string to, .int .i64 stop, body, later] w fun x w' => x = .returned (.bool true) ∧ Below w.heap.size w w' := by
  obtain ⟨a1, q1, e1, -, -⟩ := hsv.1.shape
  obtain ⟨a2, q2, e2, -, -⟩ := hbd.1.shape
  obtain ⟨a3, q3, e3, -, -⟩ := hlt.1.shape
  have KN := hid known_any
  have NW := hid (new_any w)
  have PL := hid (show ∀ (w1 : World), Tb w1 w.heap.size .nil → Below w.heap.size w w1 → Calls Try.prog 10 #[.pointer (some ⟨w.heap.size, 0, none⟩), .pointer (some ⟨w1.heap.size, 0, none⟩), sv] (w1.alloc (.cells #[.slice none 0 0] 32)) fun e w' => e = .returned (.bool true) ∧ ∃ t2 vl2 l2, Hid (St w.heap.size w' (some ⟨w.heap.size, 0, none⟩) t2 w1.heap.size vl2 l2 ∧ Below w.heap.size w w' ∧ l2.length ≤ 300) from by
    intro w1 ht hb
    have hst : St w.heap.size (w1.alloc (.cells #[.slice none 0 0] 32)) (some ⟨w.heap.size, 0, none⟩) .nil w1.heap.size (.slice none 0 0) [] := st_new (Nat.le_refl _) hb.size (ht.below (below_new _ _)) (hp_new w1 _)
    have hbn := below_on hb (below_new w1 (.cells #[.slice none 0 0] 32))
    refine (plays_any w.heap.size w.heap.size .nil w1.heap.size (.slice none 0 0) [] sv ys _ hst hbn.size (hsv.1.below hbn) (fun hc j hj => hsv.1.there hc j hj) hsv.2 (by simp)).mono ?_
    rintro e w' ⟨rfl, t2, vl2, l2, hsq⟩
    exact ⟨rfl, t2, vl2, l2, hid ⟨hsq.st, st_kept rfl hbn hst hsq.kp, by have := hsq.ln; simp at this; omega⟩⟩)
  have RG := hid (fun w2 : World => range_any (some ⟨w.heap.size, 0, none⟩) frm to w2 hf ht)
  have FO := hid (show ∀ (bo : Value) (us : List Sx) (st : Int), Ar w bo us → ∀ (w2 : World) (b : Nat) (t2 : Tr) (vl2 : Value) (l2 : List Pr) (g1 g2 g3 : Nat) (m : Nat), m ≤ 50000 → St w.heap.size w2 (some ⟨w.heap.size, 0, none⟩) t2 b vl2 l2 → Below w.heap.size w w2 → l2.length ≤ m → It w2 g1 g2 g3 (some ⟨w.heap.size, 0, none⟩) frm to → Calls Try.prog 13 #[.pointer (some ⟨w.heap.size, 0, none⟩), .pointer (some ⟨b, 0, none⟩), itV g1 g2 g3, .string frm, .string to, .int .i64 st, bo] w2 fun e w' => e = .returned (.bool true) ∧ ∃ t3 vl3 l3, Hid (St w.heap.size w' (some ⟨w.heap.size, 0, none⟩) t3 b vl3 l3 ∧ Below w.heap.size w w' ∧ l3.length ≤ m + 300 ∧ It w' g1 g2 g3 (some ⟨w.heap.size, 0, none⟩) frm to) from by
    intro bo us st har w2 b t2 vl2 l2 g1 g2 g3 m hm hst hb hl hi
    refine (follows_go w.heap.size _ t2 b vl2 l2 frm to g1 g2 g3 st bo us w2 hst hb.size hi (har.1.below hb) (fun hc j hj => har.1.there (fun e => hc (by cases us with | nil => rfl | cons a r => cases e)) j hj) (fun x hx => (har.2 x hx).1) (by omega)).mono ?_
    rintro e w' ⟨rfl, t3, vl3, l3, hsq⟩
    exact ⟨rfl, t3, vl3, l3, hid ⟨hsq.st, st_kept rfl hb hst hsq.kp, by have := hsq.ln; omega, hi.sq hst hsq⟩⟩)
  have GO := hid (show ∀ (w2 : World) (b : Nat) (t2 : Tr) (vl2 : Value) (l2 : List Pr), St w.heap.size w2 (some ⟨w.heap.size, 0, none⟩) t2 b vl2 l2 → Below w.heap.size w w2 → l2.length ≤ 50000 → Calls Try.prog 14 #[.pointer (some ⟨w.heap.size, 0, none⟩), .pointer (some ⟨b, 0, none⟩), .string ⟨#[]⟩, .string ⟨#[]⟩, .int .i64 0, .slice none 0 0] w2 fun e w' => e = .returned (.bool true) ∧ Hid (Below w.heap.size w w') from by
    intro w2 b t2 vl2 l2 hst hb hl
    refine (goes_any w.heap.size _ t2 b vl2 l2 ⟨#[]⟩ ⟨#[]⟩ 0 (.slice none 0 0) [] w2 hst hb.size (by decide) (by decide) (rf_nil _ _) (fun hc => absurd rfl hc) (fun x hx => (by cases hx)) (by simp; omega)).mono ?_
    rintro e w' ⟨rfl, t3, vl3, l3, hsq⟩
    exact ⟨rfl, hid (st_kept rfl hb hst hsq.kp)⟩)
  have HA := hid (And.intro hbd hlt)
  subst e1 e2 e3
  clear hsv hbd hlt hf ht
  have hEq := fnNil
  simp only [itV] at RG FO
  go_enter Try.func4, Try.ntmps4
  go_wp2_with (first
    | (go_at_call 9
       refine NW.out.mono ?_
       rintro e w1 ⟨rfl, ht, hb, hs⟩
       have P2 := hid (PL.out w1 ht hb)
       clear ht hb hs NW)
    | (go_at_call 10
       refine P2.out.mono ?_
       rintro e w2 ⟨rfl, t2, vl2, l2, N2⟩
       have R2 := hid (RG.out w2))
    | (go_at_call 12
       refine R2.out.mono ?_
       rintro e w3 ⟨g1, g2, g3, rfl, hi, hb, -⟩
       have F1 := hid (FO.out _ xs stop HA.out.1 w3 w1.heap.size t2 vl2 l2 g1 g2 g3 300 (by omega) (N2.out.1.below hb) (below_on N2.out.2.1 hb) N2.out.2.2 hi)
       clear hi hb)
    | (go_at_call 13
       refine F1.out.mono ?_
       rintro e w4 ⟨rfl, t4, vl4, l4, N4⟩
       have F2 := hid (FO.out _ zs 0 HA.out.2 w4 w1.heap.size t4 vl4 l4 g1 g2 g3 600 (by omega) N4.out.1 N4.out.2.1 N4.out.2.2.1 N4.out.2.2.2)
       clear F1)
    | (go_at_call 13
       refine F2.out.mono ?_
       rintro e w5 ⟨rfl, t5, vl5, l5, N5⟩
       have G5 := hid (GO.out w5 w1.heap.size t5 vl5 l5 N5.out.1 N5.out.2.1 (by have := N5.out.2.2.1; omega))
       clear F2)
    | (go_at_call 14
       refine G5.out.mono ?_
       rintro e w6 ⟨rfl, N6⟩
       have K6 := hid (KN.out w6))
    | (go_at_call 11
       refine K6.out.mono ?_
       rintro e w7 ⟨rfl, hb7⟩
       have N7 := hid hb7
       clear hb7))
  go_ret
  exact ⟨rfl, below_on N6.out N7.out⟩

end Go.Proofs.Ytkalppcekmlgbaa
