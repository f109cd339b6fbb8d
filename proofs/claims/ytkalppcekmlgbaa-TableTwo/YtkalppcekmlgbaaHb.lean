import Derived.Test.YtkalppcekmlgbaaHa
namespace Go.Proofs.Ytkalppcekmlgbaa
open Go.RowKit

def TwE (w0 w : World) (p a q b n : Nat) : Prop := ∃ t1 vl1 l1 t2 vl2 l2, Tw w0 w p a q b t1 vl1 l1 t2 vl2 l2 n
theorem TwE.swap {w0 w : World} {p a q b n : Nat} (h : TwE w0 w p a q b n) : TwE w0 w q b p a n := by
  obtain ⟨t1, vl1, l1, t2, vl2, l2, h⟩ := h
  exact ⟨_, _, _, _, _, _, h.swap⟩
theorem TwE.drew {w0 w : World} {p a q b n : Nat} (h : TwE w0 w p a q b n) : TwE w0 w.drew p a q b n := by
  obtain ⟨t1, vl1, l1, t2, vl2, l2, h⟩ := h
  exact ⟨_, _, _, _, _, _, h.below (Below.refl _ _).drew⟩
theorem TwE.bl {w0 w : World} {p a q b n : Nat} (h : TwE w0 w p a q b n) : Below w0.heap.size w0 w := by
  obtain ⟨t1, vl1, l1, t2, vl2, l2, h⟩ := h
  exact h.bl

theorem tw_plays {w0 w : World} {p a q b n : Nat} (h : TwE w0 w p a q b n) (hn : n ≤ 400) (sv : Value) (x : Sx) (hr : Rf w 5 sv 1 ([x].flatMap Sx.cells)) (hsv : ∀ j, sv.ownBlock = some j → j < w0.heap.size) (hx : x.key.size ≤ 281474976710656 ∧ x.to.size ≤ 281474976710656) :
    Calls Try.prog 10 #[.pointer (some ⟨p, 0, none⟩), .pointer (some ⟨a, 0, none⟩), sv] w fun e w' => e = .returned (.bool true) ∧ Hid (TwE w0 w' p a q b (n + 1)) := by
  obtain ⟨t1, vl1, l1, t2, vl2, l2, h⟩ := h
  have := h.n1
  refine (plays_any w0.heap.size p t1 a vl1 l1 sv [x] w h.s1 h.bl.size hr (fun _ => hsv) (fun y hy => by simp at hy; subst hy; exact hx) (by omega)).mono ?_
  rintro e w' ⟨rfl, t', vl', l', hs⟩
  exact ⟨rfl, hid ⟨_, _, _, _, _, _, h.step hs⟩⟩

/-- In the end: how long both are, and what is asked of both. -/
theorem tw_end {w0 w : World} {p a q b n : Nat} (h : TwE w0 w p a q b n) (hn : n ≤ 400) : ∃ (n1 n2 : Nat) (ao1 ao2 : Option Addr) (c1 c2 : Nat), w.cell? ⟨a, 0, none⟩ = some (.slice ao1 n1 c1) ∧ w.cell? ⟨b, 0, none⟩ = some (.slice ao2 n2 c2) ∧
    Hid (∀ W, Below w.heap.size w W → Calls Try.prog 19 #[.pointer (some ⟨p, 0, none⟩)] W fun x w' => x = .returned (.int .i64 n1) ∧ w' = W) ∧ Hid (∀ W, Below w.heap.size w W → Calls Try.prog 19 #[.pointer (some ⟨q, 0, none⟩)] W fun x w' => x = .returned (.int .i64 n2) ∧ w' = W) ∧
    Hid (∀ W, Below w.heap.size w W → Calls Try.prog 14 #[.pointer (some ⟨p, 0, none⟩), .pointer (some ⟨a, 0, none⟩), .string ⟨#[]⟩, .string ⟨#[]⟩, .int .i64 0, .slice none 0 0] W fun e w' => e = .returned (.bool true) ∧ Below W.heap.size W w') ∧
    Hid (∀ W, Below w.heap.size w W → Calls Try.prog 14 #[.pointer (some ⟨q, 0, none⟩), .pointer (some ⟨b, 0, none⟩), .string ⟨#[]⟩, .string ⟨#[]⟩, .int .i64 0, .slice none 0 0] W fun e w' => e = .returned (.bool true) ∧ Below W.heap.size W w') := by
  obtain ⟨t1, vl1, l1, t2, vl2, l2, h⟩ := h
  have := h.n1
  have := h.n2
  obtain ⟨ao1, c1, e1⟩ := own_shape h.s1.bk.own
  obtain ⟨ao2, c2, e2⟩ := own_shape h.s2.bk.own
  refine ⟨l1.length, l2.length, ao1, ao2, c1, c2, by rw [← e1]; exact cells1 h.s1.bk.blk, by rw [← e2]; exact cells1 h.s2.bk.blk, hid fun W hb => ?_, hid fun W hb => ?_, hid fun W hb => ?_, hid fun W hb => ?_⟩
  · rw [← h.s1.mt.len]; exact len_any _ t1 W (h.s1.below hb).to
  · rw [← h.s2.mt.len]; exact len_any _ t2 W (h.s2.below hb).to
  · exact goes_nil w0.heap.size _ t1 a vl1 l1 ⟨#[]⟩ ⟨#[]⟩ 0 W (h.s1.below hb) (Nat.le_trans h.bl.size hb.size) (by decide) (by decide) (by omega)
  · exact goes_nil w0.heap.size _ t2 b vl2 l2 ⟨#[]⟩ ⟨#[]⟩ 0 W (h.s2.below hb) (Nat.le_trans h.bl.size hb.size) (by decide) (by decide) (by omega)

theorem two_new {w0 w1 w2 : World} (h1 : Tb w1 w0.heap.size .nil) (b1 : Below w0.heap.size w0 w1) (h2 : Tb w2 w1.heap.size .nil) (b2 : Below w1.heap.size w1 w2) :
    TwE w0 ((w2.alloc (.cells #[.slice none 0 0] 32)).alloc (.cells #[.slice none 0 0] 32)) w0.heap.size w2.heap.size w1.heap.size (w2.heap.size + 1) 0 := by
  obtain ⟨x1, x2, x3⟩ := two' w2 (.cells #[.slice none 0 0] 32) (.cells #[.slice none 0 0] 32)
  have q1 := hp_lt h1.blk
  have q2 := hp_lt h2.blk
  have r1 := b1.size
  have r2 := b2.size
  refine ⟨.nil, .slice none 0 0, [], .nil, .slice none 0 0, [], st_new (Nat.le_refl _) (by omega) ((h1.below b2).below x3) x1, st_new (by omega) (by omega) (h2.below x3) x2, ?_, by simp, by simp, below_on (below_on b1 b2) x3⟩
  intro k h1 h2
  simp [ft, Tr.bs_nil, Value.ownBlock] at h1 h2
  omega

set_option maxRecDepth 100000 in
set_option maxHeartbeats 8000000 in
theorem two_any (sv wv : Value) (ys : List Sx) (bs : List Bool) (w : World) (hsv : Ar w sv ys) (hwv : Rf w 1 wv bs.length (bs.map Value.bool)) :
    Calls Try.prog 6 #[sv, wv] w fun x w' => x = .returned (.bool true) ∧ Below w.heap.size w w' := by
  obtain ⟨a1, q1, e1, hcp1, hmx1⟩ := hsv.1.shape
  obtain ⟨a2, q2, e2, -, -⟩ := hwv.shape
  have KN := hid known_any
  have NW := hid new_any
  have HA := hid (And.intro hsv hwv)
  subst e1 e2
  clear hsv hwv
  go_enter Try.func6, Try.ntmps6
  go_wp2_with (first
    | (go_at_call 9
       refine (NW.out w).mono ?_
       rintro e w1 ⟨rfl, ht1, hb1, hs1⟩
       have N1 := hid (And.intro ht1 hb1)
       clear ht1 hb1 hs1)
    | (go_at_call 9
       refine (NW.out w1).mono ?_
       rintro e w2 ⟨rfl, ht2, hb2, hs2⟩
       have N2 := hid (two_new N1.out.1 N1.out.2 ht2 hb2)
       clear ht2 hb2 hs2 NW))
  go_loopw [9] (fun i wr => ∃ k : Nat, i = .int .i64 k ∧ k ≤ ys.length ∧ k ≤ 300 ∧ Hid (TwE w wr w.heap.size w2.heap.size w1.heap.size (w2.heap.size + 1) k)) (fun i _ => 300 - (intOf i).toNat)
  case atStart => exact ⟨0, rfl, Nat.zero_le _, Nat.zero_le _, N2⟩
  case round =>
    obtain ⟨k, rfl, hk, hk3, hq⟩ := hrel
    by_cases h12 : k < ys.length ∧ k < 300
    · obtain ⟨h1, h2⟩ := h12
      have h2' : (k : Int) < 300 := by omega
      obtain ⟨gb, off, cap', hbody2, -, -, -⟩ := (HA.out.1.1.below hq.out.bl).lits (by omega) (by omega)
      injection hbody2 with hb3 hb4 hb5
      subst hb3 hb5
      have hgb : gb < w.heap.size := HA.out.1.1.there (by intro e; have := congrArg List.length e; rw [flat_len Sx.cells 5 Sx.len] at this; simp at this; omega) gb rfl
      have RO := hid (show Rf wr 5 (.slice (some ⟨gb, off + k * 5, none⟩) 1 (q1 - k)) 1 ([ys[k]].flatMap Sx.cells) from (HA.out.1.1.below hq.out.bl).one h1 rfl rfl)
      have PX := hid (tw_plays hq.out (by omega) (.slice (some ⟨gb, off + k * 5, none⟩) 1 (q1 - k)) ys[k] RO.out (fun j hj => by simp [Value.ownBlock] at hj; omega) (HA.out.1.2 _ (List.getElem_mem h1)))
      have PY := hid (tw_plays hq.out.swap (by omega) (.slice (some ⟨gb, off + k * 5, none⟩) 1 (q1 - k)) ys[k] RO.out (fun j hj => by simp [Value.ownBlock] at hj; omega) (HA.out.1.2 _ (List.getElem_mem h1)))
      have hcp2 : k + 1 ≤ q1 := by omega
      clear hgb
      by_cases hw1 : k < bs.length
      · obtain ⟨gw, offw, capw, hwv2, -, -, hcw⟩ := (HA.out.2.below hq.out.bl).lits (by omega) (by omega)
        injection hwv2 with hw3 hw4 hw5
        subst hw3 hw5
        have vw := hcw k (.bool bs[k]) (by rw [List.getElem?_map, List.getElem?_eq_getElem hw1]; rfl)
        clear hcw hw4 hb4
        generalize bs[k] = bb at vw
        cases bb
        · go_wp2_with (
            go_at_call 10
            refine PY.out.mono ?_
            rintro e w3 ⟨rfl, N3⟩)
          go_roundw
          case rel => exact ⟨k + 1, by go_num, by omega, by omega, N3.out.swap⟩
          case measure => simp [intOf]; omega
        · go_wp2_with (
            go_at_call 10
            refine PX.out.mono ?_
            rintro e w3 ⟨rfl, N3⟩)
          go_roundw
          case rel => exact ⟨k + 1, by go_num, by omega, by omega, N3⟩
          case measure => simp [intOf]; omega
      · go_wp2_with (
          go_at_call 10
          refine PY.out.mono ?_
          rintro e w3 ⟨rfl, N3⟩)
        go_roundw
        case rel => exact ⟨k + 1, by go_num, by omega, by omega, N3.out.swap⟩
        case measure => simp [intOf]; omega
    · obtain ⟨n1, n2, ao1, ao2, cc1, cc2, y1, y2, L1, L2, G1, G2⟩ := tw_end hq.out (by omega)
      have KN2 := KN
      clear hcp1 hmx1
      by_cases h1 : k < ys.length
      · have h2' : ¬ (k : Int) < 300 := by omega
        clear h12
        go_wp2_with fail
        go_region_held3 (fun wx => wx.cell? ⟨w2.heap.size, 0, none⟩ = some (.slice ao1 n1 cc1) ∧ wx.cell? ⟨w2.heap.size + 1, 0, none⟩ = some (.slice ao2 n2 cc2))
          (first | (go_keep; done) | (exact ⟨k1, k2⟩) | (exact ⟨k3, k4⟩) | (exact ⟨k5, k6⟩))
          (first
            | (go_at_call 14
               with_reducible show Calls _ _ #[.pointer (some ⟨w.heap.size, 0, none⟩), _, _, _, _, _] _ _
               refine (G1.out wr.drew (Below.refl _ _).drew).mono ?_
               rintro e w3 ⟨rfl, hb3⟩
               have B3 := hid (show Below wr.heap.size wr w3 from undrew hb3)
               have k1 := (B3.out.cell (p := ⟨w2.heap.size, 0, none⟩) (World.block_lt_of_cell? _ _ y1)).trans y1
               have k2 := (B3.out.cell (p := ⟨w2.heap.size + 1, 0, none⟩) (World.block_lt_of_cell? _ _ y2)).trans y2
               clear hb3)
            | (go_at_call 14
               with_reducible show Calls _ _ #[.pointer (some ⟨w1.heap.size, 0, none⟩), _, _, _, _, _] _ _
               refine (G2.out w3 B3.out).mono ?_
               rintro e w4 ⟨rfl, hb4⟩
               have B4 := hid (below_on B3.out hb4)
               have k3 := (B4.out.cell (p := ⟨w2.heap.size, 0, none⟩) (World.block_lt_of_cell? _ _ y1)).trans y1
               have k4 := (B4.out.cell (p := ⟨w2.heap.size + 1, 0, none⟩) (World.block_lt_of_cell? _ _ y2)).trans y2
               clear hb4)
            | (go_at_call 19
               with_reducible show Calls _ _ #[.pointer (some ⟨w.heap.size, 0, none⟩)] _ _
               refine (L1.out w4 B4.out).mono ?_
               rintro e w5 ⟨rfl, e5⟩
               rw [e5]
               clear e5 w5)
            | (go_at_call 19
               with_reducible show Calls _ _ #[.pointer (some ⟨w1.heap.size, 0, none⟩)] _ _
               refine (L2.out w4 B4.out).mono ?_
               rintro e w5 ⟨rfl, e5⟩
               rw [e5]
               clear e5 w5)
            | (go_at_call 11
               refine (KN.out w4).mono ?_
               rintro e w6 ⟨rfl, hb6⟩
               have B6 := hid (below_on B4.out hb6)
               have k5 := (B6.out.cell (p := ⟨w2.heap.size, 0, none⟩) (World.block_lt_of_cell? _ _ y1)).trans y1
               have k6 := (B6.out.cell (p := ⟨w2.heap.size + 1, 0, none⟩) (World.block_lt_of_cell? _ _ y2)).trans y2
               clear hb6))
        go_wp2
        go_ret
        exact ⟨rfl, below_on hq.out.bl B6.out⟩
      · clear h12
        go_wp2_with fail
        go_region_held3 (fun wx => wx.cell? ⟨w2.heap.size, 0, none⟩ = some (.slice ao1 n1 cc1) ∧ wx.cell? ⟨w2.heap.size + 1, 0, none⟩ = some (.slice ao2 n2 cc2))
          (first | (go_keep; done) | (exact ⟨k1, k2⟩) | (exact ⟨k3, k4⟩) | (exact ⟨k5, k6⟩))
          (first
            | (go_at_call 14
               with_reducible show Calls _ _ #[.pointer (some ⟨w.heap.size, 0, none⟩), _, _, _, _, _] _ _
               refine (G1.out wr.drew (Below.refl _ _).drew).mono ?_
               rintro e w3 ⟨rfl, hb3⟩
               have B3 := hid (show Below wr.heap.size wr w3 from undrew hb3)
               have k1 := (B3.out.cell (p := ⟨w2.heap.size, 0, none⟩) (World.block_lt_of_cell? _ _ y1)).trans y1
               have k2 := (B3.out.cell (p := ⟨w2.heap.size + 1, 0, none⟩) (World.block_lt_of_cell? _ _ y2)).trans y2
               clear hb3)
            | (go_at_call 14
               with_reducible show Calls _ _ #[.pointer (some ⟨w1.heap.size, 0, none⟩), _, _, _, _, _] _ _
               refine (G2.out w3 B3.out).mono ?_
               rintro e w4 ⟨rfl, hb4⟩
               have B4 := hid (below_on B3.out hb4)
               have k3 := (B4.out.cell (p := ⟨w2.heap.size, 0, none⟩) (World.block_lt_of_cell? _ _ y1)).trans y1
               have k4 := (B4.out.cell (p := ⟨w2.heap.size + 1, 0, none⟩) (World.block_lt_of_cell? _ _ y2)).trans y2
               clear hb4)
            | (go_at_call 19
               with_reducible show Calls _ _ #[.pointer (some ⟨w.heap.size, 0, none⟩)] _ _
               refine (L1.out w4 B4.out).mono ?_
               rintro e w5 ⟨rfl, e5⟩
               rw [e5]
               clear e5 w5)
            | (go_at_call 19
               with_reducible show Calls _ _ #[.pointer (some ⟨w1.heap.size, 0, none⟩)] _ _
               refine (L2.out w4 B4.out).mono ?_
               rintro e w5 ⟨rfl, e5⟩
               rw [e5]
               clear e5 w5)
            | (go_at_call 11
               refine (KN.out w4).mono ?_
               rintro e w6 ⟨rfl, hb6⟩
               have B6 := hid (below_on B4.out hb6)
               have k5 := (B6.out.cell (p := ⟨w2.heap.size, 0, none⟩) (World.block_lt_of_cell? _ _ y1)).trans y1
               have k6 := (B6.out.cell (p := ⟨w2.heap.size + 1, 0, none⟩) (World.block_lt_of_cell? _ _ y2)).trans y2
               clear hb6))
        go_wp2
        go_ret
        exact ⟨rfl, below_on hq.out.bl B6.out⟩

end Go.Proofs.Ytkalppcekmlgbaa
