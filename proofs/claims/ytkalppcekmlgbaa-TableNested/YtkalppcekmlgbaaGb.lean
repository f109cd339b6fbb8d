import Derived.Test.YtkalppcekmlgbaaGa
import Derived.Test.YtkalppcekmlgbaaNa
namespace Go.Proofs.Ytkalppcekmlgbaa
open Go.RowKit

/-- A new table and a new book. -/
theorem st_new {B : Nat} {w : World} {p b : Nat} (hp : B ≤ p) (hB : B ≤ b) (ht : Tb w p .nil) (hb : w.heap[b]? = some (.cells #[.slice none 0 0] 32 (0, 0))) : St B w (some ⟨p, 0, none⟩) .nil b (.slice none 0 0) [] :=
  ⟨.inr ⟨p, rfl, ht⟩, fun q h => (by injection h with h; injection h with h; omega), fun i h => (by cases h), hB, ⟨hb, World.ownsRow_nil _ _ _ _⟩, rfl, fun p h => (by cases h)⟩

theorem st_kept {B : Nat} {w W w' : World} {o : Option Addr} {t : Tr} {b : Nat} {vl : Value} {l : List Pr} (hw : B = w.heap.size) (hb : Below w.heap.size w W) (hs : St B W o t b vl l) (hk : Kept (ft o t b vl) W w') : Below w.heap.size w w' :=
  kept_below hb hk (fun j hj => hw ▸ (hs.lt j hj).1)

set_option maxRecDepth 100000 in
set_option maxHeartbeats 8000000 in
theorem tplays_any (z : Bool) (sv : Value) (ys : List Sx) (w : World) (hr : Rf w 5 sv ys.length (ys.flatMap Sx.cells)) (hys : ∀ x ∈ ys, x.key.size ≤ 281474976710656 ∧ x.to.size ≤ 281474976710656) :
    Calls Try.prog 3 #[.bool z, sv] w fun x w' => x = .returned (.bool true) ∧ Below w.heap.size w w' := by
  obtain ⟨aob, capb, hbody, hcap, -⟩ := hr.shape
  have KN := hid known_any
  have NW := hid (new_any w)
  have PL := hid (show ∀ (W : World) (p b : Nat), Below w.heap.size w W → w.heap.size ≤ p → w.heap.size ≤ b → Tb W p .nil → W.heap[b]? = some (.cells #[.slice none 0 0] 32 (0, 0)) → Calls Try.prog 10 #[.pointer (some ⟨p, 0, none⟩), .pointer (some ⟨b, 0, none⟩), sv] W fun e w' => e = .returned (.bool true) ∧ Hid (Below w.heap.size w w') from by
    intro W p b hb hp hbb ht hblk
    have hst := st_new hp hbb ht hblk
    refine (plays_any w.heap.size p .nil b (.slice none 0 0) [] sv ys W hst hb.size (hr.below hb) (fun hc j hj => hr.there hc j hj) hys (by simp)).mono ?_
    rintro e w' ⟨rfl, t2, vl2, l2, hsq⟩
    exact ⟨rfl, hid (st_kept rfl hb hst hsq.kp)⟩)
  subst hbody
  clear hr hys
  cases z
  · go_enter Try.func3, Try.ntmps3
    go_wp2_with (first
      | (go_at_call 9
         refine NW.out.mono ?_
         rintro e w1 ⟨rfl, ht, hb, hs⟩
         have P2 := hid (PL.out (w1.alloc (.cells #[.slice none 0 0] 32)) w.heap.size w1.heap.size (below_on hb (below_new _ _)) (Nat.le_refl _) hb.size (ht.below (below_new _ _)) (hp_new w1 _))
         clear ht hb hs NW)
      | (go_at_call 10
         refine P2.out.mono ?_
         rintro e w2 ⟨rfl, N2⟩
         have K2 := hid (KN.out w2))
      | (go_at_call 11
         refine K2.out.mono ?_
         rintro e w3 ⟨rfl, hb3⟩
         have N3 := hid hb3
         clear hb3))
    go_ret
    exact ⟨rfl, below_on N2.out N3.out⟩
  · go_enter Try.func3, Try.ntmps3
    go_wp2_with (first
      | (go_at_call 9
         refine NW.out.mono ?_
         rintro e w1 ⟨rfl, ht, hb, hs⟩
         obtain ⟨h1, h2, h3⟩ := two' w1 (.cells #[.pointer none, .int .i64 0] 27) (.cells #[.slice none 0 0] 32)
         have P2 := hid (PL.out ((w1.alloc (.cells #[.pointer none, .int .i64 0] 27)).alloc (.cells #[.slice none 0 0] 32)) w1.heap.size (w1.heap.size + 1) (below_on hb h3) hb.size (Nat.le_trans hb.size (Nat.le_succ _)) ⟨h1, trivial, List.Pairwise.nil, List.Pairwise.nil⟩ h2)
         clear ht hb hs NW h1 h2 h3)
      | (go_at_call 10
         refine P2.out.mono ?_
         rintro e w2 ⟨rfl, N2⟩
         have K2 := hid (KN.out w2))
      | (go_at_call 11
         refine K2.out.mono ?_
         rintro e w3 ⟨rfl, hb3⟩
         have N3 := hid hb3
         clear hb3))
    go_ret
    exact ⟨rfl, below_on N2.out N3.out⟩

end Go.Proofs.Ytkalppcekmlgbaa
