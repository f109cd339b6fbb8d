import Derived.Test.YtkalppcekmlgbaaJa
namespace Go.Proofs.Ytkalppcekmlgbaa
open Go.RowKit

set_option maxRecDepth 100000 in
set_option maxHeartbeats 8000000 in
theorem nes1 (B : Nat) (w : World) (S T R p : Nat) (t : Tr) (b : Nat) (vl : Value) (l : List Pr) (frm to : ByteArray) (body : Value) (xs : List Sx) (g1 g2 g3 n : Nat) (ls k : ByteArray) (v : Int)
    (hx : Nx w S T R p b frm to body g1 g2 g3 n ls) (hs : St B w (some ⟨p, 0, none⟩) t b vl l) (hR : S + 2 < T ∧ T + 2 < R) (hl : l.length ≤ 1000)
    (hq : (if 0 < n then bnextV ls l else bleastV frm l) = .tuple #[.string k, .bool true]) (hg : bgetV k l = .tuple #[.int .i64 v, .bool true]) (hn : n ≤ 100000)
    (hr : Rf w 5 body xs.length (xs.flatMap Sx.cells)) (hbd : xs ≠ [] → ∀ j, body.ownBlock = some j → j < B) (hB : B ≤ S) (hxs : ∀ x ∈ xs, x.key.size ≤ 281474976710656)
    (hi : It w g1 g2 g3 (some ⟨p, 0, none⟩) frm to) (hg3 : g1 < R ∧ g2 < R ∧ g3 < R) (hks : k.size ≤ 281474976710656) (hts : to.size ≤ 281474976710656) :
    Calls Try.prog 15 #[.string k, .int .i64 v, .pointer (some ⟨T + 2, 0, none⟩), .pointer (some ⟨S, 0, none⟩), .pointer (some ⟨R + 2, 0, none⟩), .pointer (some ⟨R + 3, 0, none⟩), .pointer (some ⟨R + 1, 0, none⟩), .pointer (some ⟨S + 2, 0, none⟩), .pointer (some ⟨T, 0, none⟩), .pointer (some ⟨R, 0, none⟩), .pointer (some ⟨S + 1, 0, none⟩)] w
      (NesQ B w S T R p t b vl l frm to body g1 g2 g3 n k) := by
  obtain ⟨x1, s1, K1⟩ := nes_a (n := n) hx hs hR k
  obtain ⟨W1, hW1⟩ : ∃ W1, W1 = w.setCell ⟨R + 3, 0, none⟩ (.string k) := ⟨_, rfl⟩
  rw [← hW1] at x1 s1 K1
  have hz : S ≤ w.heap.size := Nat.le_of_lt (hp_lt hx.bf)
  have hBW : B ≤ W1.heap.size := by have := K1.size; omega
  have r1 : Rf W1 5 body xs.length (xs.flatMap Sx.cells) := hr.keptE K1 (fun hc j hj e => by have := hbd (flat_ne hc) j hj; omega)
  have i1 : It W1 g1 g2 g3 (some ⟨p, 0, none⟩) frm to := ⟨hp_kept hi.t K1 (by omega), hp_kept hi.f K1 (by omega), hp_kept hi.e K1 (by omega)⟩
  obtain ⟨ao, cap, hbody, hcap, hmax⟩ := hr.shape
  obtain ⟨a1, q1, e1⟩ := bleastV_form frm l
  have L1 := hid (show Calls Try.prog 16 #[.pointer (some ⟨b, 0, none⟩), .string frm] w fun x w' => x = .returned (.tuple #[.string a1, .bool q1]) ∧ w' = w from e1 ▸ bleast_any B b vl l frm w hs.bk (by omega))
  have GT := hid (show Calls Try.prog 18 #[.pointer (some ⟨b, 0, none⟩), .string k] w fun x w' => x = .returned (.tuple #[.int .i64 v, .bool true]) ∧ w' = w from hg ▸ bget_any B b vl l k w hs.bk (by omega))
  have FO := hid (show ∀ (sv : Value) (us : List Sx) (stop : Int), Rf W1 5 sv us.length (us.flatMap Sx.cells) → (us ≠ [] → ∀ j, sv.ownBlock = some j → j < B) → (∀ x ∈ us, x.key.size ≤ 281474976710656) → us.length ≤ 1 → Calls Try.prog 13 #[.pointer (some ⟨p, 0, none⟩), .pointer (some ⟨b, 0, none⟩), itV g1 g2 g3, .string frm, .string to, .int .i64 stop, sv] W1 fun e w' => e = .returned (.bool true) ∧ ∃ t2 vl2 l2, Hid (Sq B W1 w' (some ⟨p, 0, none⟩) t b vl l t2 vl2 l2 1) from by
    intro sv us stop h1 h2 h3 h4
    refine (follows_go B _ t b vl l frm to g1 g2 g3 stop sv us W1 s1 hBW i1 h1 h2 h3 (by omega)).mono ?_
    rintro e w' ⟨rfl, t2, vl2, l2, h⟩
    exact ⟨rfl, t2, vl2, l2, hid (h.mono (by omega))⟩)
  have GO := hid (show ∀ w2 t2 vl2 l2, Sq B W1 w2 (some ⟨p, 0, none⟩) t b vl l t2 vl2 l2 1 → Calls Try.prog 14 #[.pointer (some ⟨p, 0, none⟩), .pointer (some ⟨b, 0, none⟩), .string k, .string to, .int .i64 1, .slice none 0 0] w2 fun e w' => e = .returned (.bool true) ∧ Hid (Sq B W1 w' (some ⟨p, 0, none⟩) t b vl l t2 vl2 l2 1) from by
    intro w2 t2 vl2 l2 h
    have := h.ln
    refine (goes_nil B _ t2 b vl2 l2 k to 1 w2 h.st (Nat.le_trans hBW h.kp.size) hks hts (by omega)).mono ?_
    rintro e w' ⟨rfl, hb⟩
    exact ⟨rfl, hid (h.below hb)⟩)
  have XC := hid (show ∀ w2 t2 vl2 l2, Sq B W1 w2 (some ⟨p, 0, none⟩) t b vl l t2 vl2 l2 1 → Nx w2 S T R p b frm to body g1 g2 g3 n k from fun w2 t2 vl2 l2 h => x1.sq s1 h.kp)
  have y0 := cells1 hx.bb
  have y1 := cells1 hx.bf
  have y2 := cells1 hx.bn
  have y3 := cells1 hx.bl
  have g9 : ∀ j, w.frozen? ⟨R + 3, j, none⟩ = false := fun j => free_of_block hx.bl
  have z0 := cells1 x1.bb
  have z1 := cells1 x1.bf
  have z2 := cells1 x1.bn
  have z4 := cells1 x1.be
  have z5 := cells1 x1.bt
  have z6 := cells1 x1.bi
  have z7 := cells1 x1.bd
  have z8 := cells1 x1.bo
  rw [hbody] at z7
  have h2 : ∀ j, W1.frozen? ⟨R + 2, j, none⟩ = false := fun j => free_of_block x1.bn
  have hne : (k.toList == k.toList) = true := by simp
  have hnv : (v == v) = true := by simp
  have hnw : IntKind.i64.wrap ((n : Int) + 1) = (n : Int) + 1 := by rw [IntKind.wrap_i64]; omega
  have hn5 : ¬ (100000 : Int) < n := by omega
  have HW := hid hW1
  have FIN := hid (show ∀ w3 t2 vl2 l2, n < 8 → Sq B W1 w3 (some ⟨p, 0, none⟩) t b vl l t2 vl2 l2 1 → NesQ B w S T R p t b vl l frm to body g1 g2 g3 n k (.returned (.bool true)) ((w3.setCell ⟨R + 1, 0, none⟩ (.bool true)).setCell ⟨R + 2, 0, none⟩ (.int .i64 ((n : Int) + 1))) from fun w3 t2 vl2 l2 h8 h => nes_end hR (x1.sq s1 h.kp) K1 (by rw [if_pos h8]; exact h) (fun h => by omega))
  have FIN0 := hid (show 8 ≤ n → NesQ B w S T R p t b vl l frm to body g1 g2 g3 n k (.returned (.bool true)) (W1.setCell ⟨R + 2, 0, none⟩ (.int .i64 ((n : Int) + 1))) from fun h8 => nes_end0 hR x1 K1 s1 h8)
  generalize hP : NesQ B w S T R p t b vl l frm to body g1 g2 g3 n k = PP at FIN FIN0 ⊢
  have HB := hid (And.intro r1 (And.intro hbd hxs))
  have BK := hid (And.intro hs.bk hl)
  clear hP hx hs hg hr hbd hxs hi hks hts x1 s1 K1 hW1 r1 i1 hz hBW hB hg3 hcap hl
  simp only [itV] at FO z6
  by_cases h0 : 0 < n
  · have h0' : (0 : Int) < n := by omega
    rw [if_pos h0] at hq
    have X1 := hid (show Calls Try.prog 17 #[.pointer (some ⟨b, 0, none⟩), .string ls] w fun x w' => x = .returned (.tuple #[.string k, .bool true]) ∧ w' = w from hq ▸ bnext_any B b vl l ls w BK.out.1 (by have := BK.out.2; omega))
    clear hq e1
    by_cases h8 : n < 8
    · have h8' : (n : Int) < 8 := by omega
      by_cases hlt : n < xs.length
      · have hlt' : (n : Int) < xs.length := by omega
        obtain ⟨gb, off, cap', hbody2, hcp, -, -⟩ := HB.out.1.lits (by omega) (by omega)
        rw [hbody2] at hbody
        injection hbody with ex _ ey
        subst ex ey
        have RO := hid (show Rf W1 5 (.slice (some ⟨gb, off + n * 5, none⟩) 1 (cap' - n)) 1 ([xs[n]].flatMap Sx.cells) ∧ ([xs[n]] ≠ [] → ∀ j, (Value.slice (some ⟨gb, off + n * 5, none⟩) 1 (cap' - n)).ownBlock = some j → j < B) ∧ (∀ x ∈ [xs[n]], x.key.size ≤ 281474976710656) from ⟨Rf.one (by rw [← hbody2]; exact HB.out.1) hlt rfl rfl, fun _ j hj => HB.out.2.1 (fun e => by rw [e] at hlt; cases hlt) j (by rw [hbody2]; exact hj), fun x hx => by simp at hx; subst hx; exact HB.out.2.2 _ (List.getElem_mem hlt)⟩)
        clear hbody2
        go_enter Try.func15, Try.ntmps15
        go_upto_region 9 with (first
            | (go_at_call 16; refine L1.out.mono ?_; rintro e w2 ⟨rfl, e3⟩; rw [e3]; clear e3 w2)
            | (go_at_call 17; refine X1.out.mono ?_; rintro e w2 ⟨rfl, e3⟩; rw [e3]; clear e3 w2)
            | (go_at_call 18; refine GT.out.mono ?_; rintro e w2 ⟨rfl, e3⟩; rw [e3]; clear e3 w2))
        rw [← HW.out]
        go_wp2_with (first
          | (go_at_call 13
             refine (FO.out (.slice (some ⟨gb, off + n * 5, none⟩) 1 (cap' - n)) [xs[n]] _ RO.out.1 RO.out.2.1 RO.out.2.2 (by simp)).mono ?_
             rintro e w2 ⟨rfl, t2, vl2, l2, N2⟩
             have X2 := hid (XC.out w2 t2 vl2 l2 N2.out)
             have u0 := cells1 X2.out.bt
             have u1 := cells1 X2.out.bb
             have u2 := cells1 X2.out.be
             have G2 := hid (GO.out w2 t2 vl2 l2 N2.out))
          | (go_at_call 14
             refine G2.out.mono ?_
             rintro e w3 ⟨rfl, N3⟩
             have X3 := hid (XC.out w3 t2 vl2 l2 N3.out)
             have v8 := cells1 X3.out.bo
             have v2 := cells1 X3.out.bn
             have f1 : ∀ j, w3.frozen? ⟨R + 1, j, none⟩ = false := fun j => free_of_block X3.out.bo
             have f2 : ∀ j, w3.frozen? ⟨R + 2, j, none⟩ = false := fun j => free_of_block X3.out.bn))
        exact FIN.out w3 t2 vl2 l2 (by omega) N3.out
      · have hlt' : ¬ (n : Int) < xs.length := by omega
        go_enter Try.func15, Try.ntmps15
        go_upto_region 9 with (first
            | (go_at_call 16; refine L1.out.mono ?_; rintro e w2 ⟨rfl, e3⟩; rw [e3]; clear e3 w2)
            | (go_at_call 17; refine X1.out.mono ?_; rintro e w2 ⟨rfl, e3⟩; rw [e3]; clear e3 w2)
            | (go_at_call 18; refine GT.out.mono ?_; rintro e w2 ⟨rfl, e3⟩; rw [e3]; clear e3 w2))
        rw [← HW.out]
        go_wp2_with (first
          | (go_at_call 13
             refine (FO.out (.slice none 0 0) [] _ (rf_nil _ _) (fun hc => absurd rfl hc) (fun x hx => (by cases hx)) (by simp)).mono ?_
             rintro e w2 ⟨rfl, t2, vl2, l2, N2⟩
             have X2 := hid (XC.out w2 t2 vl2 l2 N2.out)
             have u0 := cells1 X2.out.bt
             have u1 := cells1 X2.out.bb
             have u2 := cells1 X2.out.be
             have G2 := hid (GO.out w2 t2 vl2 l2 N2.out))
          | (go_at_call 14
             refine G2.out.mono ?_
             rintro e w3 ⟨rfl, N3⟩
             have X3 := hid (XC.out w3 t2 vl2 l2 N3.out)
             have v8 := cells1 X3.out.bo
             have v2 := cells1 X3.out.bn
             have f1 : ∀ j, w3.frozen? ⟨R + 1, j, none⟩ = false := fun j => free_of_block X3.out.bo
             have f2 : ∀ j, w3.frozen? ⟨R + 2, j, none⟩ = false := fun j => free_of_block X3.out.bn))
        exact FIN.out w3 t2 vl2 l2 (by omega) N3.out
    · have h8' : ¬ (n : Int) < 8 := by omega
      go_enter Try.func15, Try.ntmps15
      go_upto_region 9 with (first
          | (go_at_call 16; refine L1.out.mono ?_; rintro e w2 ⟨rfl, e3⟩; rw [e3]; clear e3 w2)
          | (go_at_call 17; refine X1.out.mono ?_; rintro e w2 ⟨rfl, e3⟩; rw [e3]; clear e3 w2)
          | (go_at_call 18; refine GT.out.mono ?_; rintro e w2 ⟨rfl, e3⟩; rw [e3]; clear e3 w2))
      rw [← HW.out]
      go_wp2
      exact FIN0.out (by omega)
  · have h0' : ¬ (0 : Int) < n := by omega
    rw [if_neg h0, e1] at hq
    injection hq with hq
    have ha : a1 = k ∧ q1 = true := by simpa using hq
    obtain ⟨rfl, rfl⟩ := ha
    clear hq e1
    by_cases h8 : n < 8
    · have h8' : (n : Int) < 8 := by omega
      by_cases hlt : n < xs.length
      · have hlt' : (n : Int) < xs.length := by omega
        obtain ⟨gb, off, cap', hbody2, hcp, -, -⟩ := HB.out.1.lits (by omega) (by omega)
        rw [hbody2] at hbody
        injection hbody with ex _ ey
        subst ex ey
        have RO := hid (show Rf W1 5 (.slice (some ⟨gb, off + n * 5, none⟩) 1 (cap' - n)) 1 ([xs[n]].flatMap Sx.cells) ∧ ([xs[n]] ≠ [] → ∀ j, (Value.slice (some ⟨gb, off + n * 5, none⟩) 1 (cap' - n)).ownBlock = some j → j < B) ∧ (∀ x ∈ [xs[n]], x.key.size ≤ 281474976710656) from ⟨Rf.one (by rw [← hbody2]; exact HB.out.1) hlt rfl rfl, fun _ j hj => HB.out.2.1 (fun e => by rw [e] at hlt; cases hlt) j (by rw [hbody2]; exact hj), fun x hx => by simp at hx; subst hx; exact HB.out.2.2 _ (List.getElem_mem hlt)⟩)
        clear hbody2
        go_enter Try.func15, Try.ntmps15
        go_upto_region 9 with (first
            | (go_at_call 16; refine L1.out.mono ?_; rintro e w2 ⟨rfl, e3⟩; rw [e3]; clear e3 w2)
            | (go_at_call 18; refine GT.out.mono ?_; rintro e w2 ⟨rfl, e3⟩; rw [e3]; clear e3 w2))
        rw [← HW.out]
        go_wp2_with (first
          | (go_at_call 13
             refine (FO.out (.slice (some ⟨gb, off + n * 5, none⟩) 1 (cap' - n)) [xs[n]] _ RO.out.1 RO.out.2.1 RO.out.2.2 (by simp)).mono ?_
             rintro e w2 ⟨rfl, t2, vl2, l2, N2⟩
             have X2 := hid (XC.out w2 t2 vl2 l2 N2.out)
             have u0 := cells1 X2.out.bt
             have u1 := cells1 X2.out.bb
             have u2 := cells1 X2.out.be
             have G2 := hid (GO.out w2 t2 vl2 l2 N2.out))
          | (go_at_call 14
             refine G2.out.mono ?_
             rintro e w3 ⟨rfl, N3⟩
             have X3 := hid (XC.out w3 t2 vl2 l2 N3.out)
             have v8 := cells1 X3.out.bo
             have v2 := cells1 X3.out.bn
             have f1 : ∀ j, w3.frozen? ⟨R + 1, j, none⟩ = false := fun j => free_of_block X3.out.bo
             have f2 : ∀ j, w3.frozen? ⟨R + 2, j, none⟩ = false := fun j => free_of_block X3.out.bn))
        exact FIN.out w3 t2 vl2 l2 (by omega) N3.out
      · have hlt' : ¬ (n : Int) < xs.length := by omega
        go_enter Try.func15, Try.ntmps15
        go_upto_region 9 with (first
            | (go_at_call 16; refine L1.out.mono ?_; rintro e w2 ⟨rfl, e3⟩; rw [e3]; clear e3 w2)
            | (go_at_call 18; refine GT.out.mono ?_; rintro e w2 ⟨rfl, e3⟩; rw [e3]; clear e3 w2))
        rw [← HW.out]
        go_wp2_with (first
          | (go_at_call 13
             refine (FO.out (.slice none 0 0) [] _ (rf_nil _ _) (fun hc => absurd rfl hc) (fun x hx => (by cases hx)) (by simp)).mono ?_
             rintro e w2 ⟨rfl, t2, vl2, l2, N2⟩
             have X2 := hid (XC.out w2 t2 vl2 l2 N2.out)
             have u0 := cells1 X2.out.bt
             have u1 := cells1 X2.out.bb
             have u2 := cells1 X2.out.be
             have G2 := hid (GO.out w2 t2 vl2 l2 N2.out))
          | (go_at_call 14
             refine G2.out.mono ?_
             rintro e w3 ⟨rfl, N3⟩
             have X3 := hid (XC.out w3 t2 vl2 l2 N3.out)
             have v8 := cells1 X3.out.bo
             have v2 := cells1 X3.out.bn
             have f1 : ∀ j, w3.frozen? ⟨R + 1, j, none⟩ = false := fun j => free_of_block X3.out.bo
             have f2 : ∀ j, w3.frozen? ⟨R + 2, j, none⟩ = false := fun j => free_of_block X3.out.bn))
        exact FIN.out w3 t2 vl2 l2 (by omega) N3.out
    · have h8' : ¬ (n : Int) < 8 := by omega
      omega

end Go.Proofs.Ytkalppcekmlgbaa

