import Derived.Test.YtkalppcekmlgbaaJc
namespace Go.Proofs.Ytkalppcekmlgbaa
open Go.RowKit

abbrev threeN (w : World) (frm to : ByteArray) (body : Value) : World := ((w.alloc (.cells #[.string frm] 9)).alloc (.cells #[.string to] 9)).alloc (.cells #[body] 22)
abbrev moreN (w1 : World) (p : Nat) : World := ((w1.alloc (.cells #[.pointer (some ⟨p, 0, none⟩)] 23)).alloc (.cells #[.slice none 0 0] 32)).alloc (.cells #[.pointer (some ⟨w1.heap.size + 1, 0, none⟩)] 29)

theorem nes_start {w w1 : World} {frm to : ByteArray} {body : Value} (ht : Tb w1 (threeN w frm to body).heap.size .nil) (hb : Below (threeN w frm to body).heap.size (threeN w frm to body) w1) :
    NB w (moreN w1 (w.heap.size + 3)) w1.heap.size (w.heap.size + 3) (w1.heap.size + 1) frm to body ∧ St w.heap.size (moreN w1 (w.heap.size + 3)) (some ⟨w.heap.size + 3, 0, none⟩) .nil (w1.heap.size + 1) (.slice none 0 0) [] ∧ Below w.heap.size w (moreN w1 (w.heap.size + 3)) := by
  have e : (threeN w frm to body).heap.size = w.heap.size + 3 := by simp [threeN]
  have hz := hp_lt ht.blk
  have b0 : Below w.heap.size w (threeN w frm to body) := ((below_new _ _).alloc (by simp) _).alloc (by simp; omega) _
  have b2 : Below w1.heap.size w1 (moreN w1 (w.heap.size + 3)) := ((below_new _ _).alloc (by simp) _).alloc (by simp; omega) _
  rw [e] at ht hz
  have hb' := hb
  rw [e] at hb'
  refine ⟨⟨?_, ?_, ?_, ?_, ?_, by omega⟩, st_new (by omega) (by omega) (ht.below b2) ?_, below_on (below_on b0 hb) b2⟩
  · refine hp_below (hp_below (?_ : (threeN w frm to body).heap[w.heap.size]? = _) hb' (by omega)) b2 (by omega)
    exact hp_alloc (hp_alloc (hp_new _ _) _) _
  · refine hp_below (hp_below (?_ : (threeN w frm to body).heap[w.heap.size + 1]? = _) hb' (by omega)) b2 (by omega)
    exact hp_alloc (at_new _ (by simp)) _
  · refine hp_below (hp_below (?_ : (threeN w frm to body).heap[w.heap.size + 2]? = _) hb' (by omega)) b2 (by omega)
    exact at_new _ (by simp)
  · exact hp_alloc (hp_alloc (hp_new _ _) _) _
  · exact at_new _ (by simp)
  · exact hp_alloc (at_new _ (by simp)) _

set_option maxRecDepth 100000 in
set_option maxHeartbeats 8000000 in
theorem nested_any (sv body : Value) (ys xs : List Sx) (frm to : ByteArray) (w : World) (hsv : Ar w sv ys) (hbd : Ar w body xs) (hf : frm.size ≤ 281474976710656) (ht : to.size ≤ 281474976710656) :
    Calls Try.prog 5 #[sv, .string frm, .string to, body] w fun x w' => x = .returned (.bool true) ∧ Below w.heap.size w w' := by
  have KN := hid known_any
  have NW := hid (new_any (threeN w frm to body))
  have PL := hid (show ∀ w1, Tb w1 (threeN w frm to body).heap.size .nil → Below (threeN w frm to body).heap.size (threeN w frm to body) w1 → Calls Try.prog 10 #[.pointer (some ⟨w.heap.size + 3, 0, none⟩), .pointer (some ⟨w1.heap.size + 1, 0, none⟩), sv] (moreN w1 (w.heap.size + 3)) fun e w' => e = .returned (.bool true) ∧ ∃ t2 vl2 l2, Hid (NB w w' w1.heap.size (w.heap.size + 3) (w1.heap.size + 1) frm to body ∧ St w.heap.size w' (some ⟨w.heap.size + 3, 0, none⟩) t2 (w1.heap.size + 1) vl2 l2 ∧ Below w.heap.size w w' ∧ l2.length ≤ 300) from by
    intro w1 h1 h2
    obtain ⟨x1, x2, x3⟩ := nes_start h1 h2
    refine (plays_any w.heap.size (w.heap.size + 3) .nil (w1.heap.size + 1) (.slice none 0 0) [] sv ys _ x2 x3.size (hsv.1.below x3) (fun hc j hj => hsv.1.there hc j hj) hsv.2 (by simp)).mono ?_
    rintro e w' ⟨rfl, t2, vl2, l2, hsq⟩
    exact ⟨rfl, t2, vl2, l2, hid ⟨x1.kept x2 hsq.kp, hsq.st, st_kept rfl x3 x2 hsq.kp, by have := hsq.ln; simp at this; omega⟩⟩)
  have RG := hid (fun (w2 : World) p => range_any (some ⟨p, 0, none⟩) frm to w2 hf ht)
  have IT := hid (fun (w5 : World) T p b t vl l g1 g2 g3 h1 h2 h3 h4 h5 => nes_iter (w0 := w) (w := w5) (T := T) (p := p) (b := b) (t := t) (vl := vl) (l := l) (g1 := g1) (g2 := g2) (g3 := g3) (frm := frm) (to := to) (body := body) (xs := xs) h1 h2 h3 h4 hbd h5 ht)
  have GO := hid (show ∀ w' T R p b, NE w w' T R p b → Calls Try.prog 14 #[.pointer (some ⟨p, 0, none⟩), .pointer (some ⟨b, 0, none⟩), .string ⟨#[]⟩, .string ⟨#[]⟩, .int .i64 0, .slice none 0 0] w' fun e w2 => e = .returned (.bool true) ∧ Hid (Below w.heap.size w w2) from by
    intro w' T R p b h
    obtain ⟨t, vl, l, hs, hl⟩ := h.ss
    refine (goes_nil w.heap.size _ t b vl l ⟨#[]⟩ ⟨#[]⟩ 0 w' hs h.bl.size (by decide) (by decide) (by omega)).mono ?_
    rintro e w2 ⟨rfl, hb⟩
    exact ⟨rfl, hid (below_on h.bl hb)⟩)
  have hmf : ∀ (fn : Fn) (first cap : Array Value) (w : World), (Instr.makeFunc fn first cap).run Try.prog w = .ok (.func fn first cap) w := fun _ _ _ _ => rfl
  have hEq := fnNil
  obtain ⟨a1, q1, e1, -, -⟩ := hsv.1.shape
  obtain ⟨a2, q2, e2, -, -⟩ := hbd.1.shape
  subst e1 e2
  clear hsv hbd hf ht
  simp only [itV] at RG
  go_enter Try.func5, Try.ntmps5
  go_wp2_with (first
    | (go_at_call 9
       refine NW.out.mono ?_
       rintro e w1 ⟨e1, h1, h2, h3⟩
       rw [show (threeN w frm to (.slice a2 xs.length q2)).heap.size = w.heap.size + 3 by simp [threeN]] at e1
       subst e1
       have P2 := hid (PL.out w1 h1 h2)
       clear h1 h2 h3 NW)
    | (go_at_call 10
       refine P2.out.mono ?_
       rintro e w2 ⟨rfl, t2, vl2, l2, N2⟩
       have c0 := cells1 N2.out.1.bt
       have c1 := cells1 N2.out.1.bf
       have c2 := cells1 N2.out.1.be
       have R2 := hid (RG.out w2 (w.heap.size + 3)))
    | (go_at_call 12
       refine R2.out.mono ?_
       rintro e w3 ⟨g1, g2, g3, rfl, hi, hb, -⟩
       have I3 := hid (IT.out w3 _ _ _ t2 vl2 l2 g1 g2 g3 (N2.out.1.below hb) (N2.out.2.1.below hb) N2.out.2.2.2 hi (below_on N2.out.2.2.1 hb))
       clear hi hb)
    | (go_at_call 27
       refine I3.out.mono ?_
       rintro e w4 ⟨rfl, h4⟩
       have N4 := hid h4
       have d0 := cells1 h4.bo
       have d1 := cells1 h4.bt
       have d2 := cells1 h4.bb
       have G4 := hid (GO.out _ _ _ _ _ h4)
       clear h4)
    | (go_at_call 14
       refine G4.out.mono ?_
       rintro e w5 ⟨rfl, N5⟩
       have K5 := hid (KN.out w5))
    | (go_at_call 11
       refine K5.out.mono ?_
       rintro e w6 ⟨rfl, hb6⟩
       have N6 := hid hb6
       clear hb6))
  go_ret
  exact ⟨rfl, below_on N5.out N6.out⟩

end Go.Proofs.Ytkalppcekmlgbaa
