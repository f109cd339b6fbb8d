import Derived.Test.YthjggbcppgbdoaaK10
import Derived.Test.YthjggbcppgbdoaaK05
import Derived.Shelf.Abstract
namespace Go.Proofs.Ythjggbcppgbdoaa
open Go.RowKit

set_option maxRecDepth 100000 in
set_option maxHeartbeats 8000000 in
theorem rdel_11 (v : Value) (l : List Pl) (key : ByteArray) (w : World) (h : RL w v l) (hl : l.length ≤ 1000000) (hs : rs key l = true) (c0 c1 : Int) (h0 h1 r : Bool) (hk : ri key l < l.length) (he : l[ri key l] = (key, ⟨c0, c1, h0, h1, r, true⟩)) (hh : (⟨c0, c1, h0, h1, r, true⟩ : Sd).has r = true) : Calls Try.prog 35 #[.agg #[v, .bool true], .string key] w fun x w' => ∃ v', x = .returned (.agg #[v', .bool true]) ∧ RL w' v' (l.take (ri key l) ++ (key, ⟨c0, 0, h0, false, true, true⟩) :: l.drop (ri key l + 1)) ∧ Below w.heap.size w w' := by
  obtain ⟨g, off, cap, rfl, -, -, -⟩ := h.1.lits (by omega) (by omega)
  have A2 := hid (show Calls Try.prog 63 #[.agg #[.slice (some ⟨g, off, none⟩) l.length cap, .bool true], .string key] (rpW w (.slice (some ⟨g, off, none⟩) l.length cap) true) fun x w' => x = .returned (.tuple #[.int .i64 (ri key l), .bool true]) ∧ Below (rpW w (.slice (some ⟨g, off, none⟩) l.length cap) true).heap.size (rpW w (.slice (some ⟨g, off, none⟩) l.length cap) true) w' from (rat_any _ true l key _ (h.below (rpW_below _ _ _)).1 hl).mono (by
    rintro x w' ⟨rfl, hb⟩
    exact ⟨by rw [hs], hb⟩))
  have C2 := hid (show ∀ w1, Below w.heap.size w w1 → w1.cell? ⟨g, off + ri key l * 7 + 1, none⟩ = some (.int .i64 c0) ∧ w1.cell? ⟨g, off + ri key l * 7 + 2, none⟩ = some (.int .i64 c1) ∧ w1.cell? ⟨g, off + ri key l * 7 + 3, none⟩ = some (.bool h0) ∧ w1.cell? ⟨g, off + ri key l * 7 + 4, none⟩ = some (.bool h1) ∧ w1.cell? ⟨g, off + ri key l * 7 + 5, none⟩ = some (.int .i64 (bit r)) ∧ w1.cell? ⟨g, off + ri key l * 7 + 6, none⟩ = some (.int .i64 (bit true)) from fun w1 hb => by
    have R : Rl w1 _ l := Rf.below h.1 hb
    simp only [Nat.add_assoc]
    exact ⟨Rl.cells R _ hk 1 _ (by omega) (by rw [he]; rfl), Rl.cells R _ hk 2 _ (by omega) (by rw [he]; rfl), Rl.cells R _ hk 3 _ (by omega) (by rw [he]; rfl), Rl.cells R _ hk 4 _ (by omega) (by rw [he]; rfl), Rl.cells R _ hk 5 _ (by omega) (by rw [he]; rfl), Rl.cells R _ hk 6 _ (by omega) (by rw [he]; rfl)⟩)
  have RH := hid (show ∀ w1, Calls Try.prog 65 #[.agg #[.int .i64 c0, .int .i64 c1, .bool h0, .bool h1, .int .i64 (bit r), .int .i64 (bit true)]] w1 fun x w' => x = .returned (.bool true) ∧ Below w1.heap.size w1 w' from fun w1 => (rhas_any ⟨c0, c1, h0, h1, r, true⟩ w1).mono (by rintro x w' ⟨rfl, hb⟩; exact ⟨by rw [hh], hb⟩))
  obtain ⟨y0, y1⟩ := cells2 (rpW_s w (.slice (some ⟨g, off, none⟩) l.length cap) true)
  have HLL := hid (show (l.take (ri key l) ++ (key, ⟨c0, 0, h0, false, true, true⟩) :: l.drop (ri key l + 1)).length ≤ 1000000 from by simp; omega)
  have H := hid h
  have HL := hid hl
  have HK := hid hk
  have hc0 : (0 : Int) ≤ ri key l := by omega
  have hc1 : (ri key l : Int) < l.length := by omega
  clear h hl hs he hh
  generalize bit r = zr at C2 RH
  simp only [bit, if_true] at C2 RH
  go_enter Try.func35, Try.ntmps35
  go_wp2_with (first
    | (go_at_call 63
       refine A2.out.mono ?_
       rintro e w1 ⟨rfl, hb⟩
       have B1 := hid (below_on (rpW_below w (.slice (some ⟨g, off, none⟩) l.length cap) true) hb)
       have S1 := hid (hp_below (rpW_s w (.slice (some ⟨g, off, none⟩) l.length cap) true) hb (by rw [rpW_size]; omega))
       have R1 := hid (hp_below (rpW_r w (.slice (some ⟨g, off, none⟩) l.length cap) true) hb (by rw [rpW_size]; omega))
       obtain ⟨x0, x1⟩ := cells2 S1.out
       obtain ⟨v1, v2, v3, v4, v5, v6⟩ := C2.out w1 B1.out
       clear hb y0 y1)
    | (go_at_call 65
       refine (RH.out w1).mono ?_
       rintro e w2 ⟨rfl, hb⟩
       have B2 := hid ((below_on B1.out hb).alloc (below_on B1.out hb).size (.cells #[.int .i64 c0, .int .i64 0, .bool h0, .bool false, .int .i64 1, .int .i64 1] 56))
       have R2 := hid (hp_below R1.out hb (hp_lt R1.out))
       have S2 := hid (hp_below S1.out hb (hp_lt S1.out))
       obtain ⟨z0, z1⟩ := cells2 S2.out
       obtain ⟨k0, k1⟩ := cells2 (hp_alloc S2.out (.cells #[.int .i64 c0, .int .i64 0, .bool h0, .bool false, .int .i64 1, .int .i64 1] 56))
       obtain ⟨v1, v2, v3, v4, v5, v6⟩ := C2.out w2 (below_on B1.out hb)
       clear hb)
    | (go_at_call 64
       refine (rwith1_any (.slice (some ⟨g, off, none⟩) l.length cap) true l (ri key l) (key, ⟨c0, 0, h0, false, true, true⟩) (w2.alloc (.cells #[.int .i64 c0, .int .i64 0, .bool h0, .bool false, .int .i64 1, .int .i64 1] 56)) (H.out.below B2.out) HK.out HL.out).mono ?_
       rintro e w3 ⟨u, rfl, hu, hb⟩
       obtain ⟨ao2, cap2, eu, -, -⟩ := hu.1.shape
       generalize (_ : List Pl).length = n2 at eu
       subst eu
       have S3 := hid (hp_below (hp_alloc S2.out (.cells #[.int .i64 c0, .int .i64 0, .bool h0, .bool false, .int .i64 1, .int .i64 1] 56)) hb (by have := hp_lt S2.out; simp; omega))
       have R3 := hid (hp_below (hp_alloc R2.out (.cells #[.int .i64 c0, .int .i64 0, .bool h0, .bool false, .int .i64 1, .int .i64 1] 56)) hb (by have := hp_lt R2.out; simp; omega))
       have V := hid (rp_set (m := true) hu S3.out (below_on B2.out hb) (Nat.le_refl _))
       have ff : ∀ j, w3.frozen? ⟨w.heap.size, j, none⟩ = false := fun j => free_of_block S3.out
       have fr : ∀ j, w3.frozen? ⟨w.heap.size + 1, j, none⟩ = false := fun j => free_of_block R3.out
       obtain ⟨j0, j1⟩ := cells2 S3.out
       obtain ⟨r0, r1⟩ := cells2 R3.out
       clear hu hb))
  refine bodyPost_ret (ret_agg34 Try.results35 rfl (set2 (hp_set (hp_set R3.out (by show w.heap.size + 1 ≠ w.heap.size; omega) _) (by show w.heap.size + 1 ≠ w.heap.size; omega) _) _ _)) rfl ?_
  obtain ⟨h1, h2⟩ := rp_set (m := true) V.out.1 (hp_set (hp_set R3.out (by show w.heap.size + 1 ≠ w.heap.size; omega) _) (by show w.heap.size + 1 ≠ w.heap.size; omega) _) V.out.2 (by omega)
  exact ⟨_, rfl, h1, h2⟩

set_option maxRecDepth 100000 in
set_option maxHeartbeats 8000000 in
theorem rdel_10 (v : Value) (l : List Pl) (key : ByteArray) (w : World) (h : RL w v l) (hl : l.length ≤ 1000000) (hs : rs key l = true) (c0 c1 : Int) (h0 h1 r : Bool) (hk : ri key l < l.length) (he : l[ri key l] = (key, ⟨c0, c1, h0, h1, r, true⟩)) (hh : (⟨c0, c1, h0, h1, r, true⟩ : Sd).has r = true) : Calls Try.prog 35 #[.agg #[v, .bool false], .string key] w fun x w' => ∃ v', x = .returned (.agg #[v', .bool false]) ∧ RL w' v' ((l.take (ri key l) ++ (key, ⟨c0, 0, h0, false, true, true⟩) :: l.drop (ri key l + 1)).filter keepP) ∧ Below w.heap.size w w' := by
  obtain ⟨g, off, cap, rfl, -, -, -⟩ := h.1.lits (by omega) (by omega)
  have A2 := hid (show Calls Try.prog 63 #[.agg #[.slice (some ⟨g, off, none⟩) l.length cap, .bool false], .string key] (rpW w (.slice (some ⟨g, off, none⟩) l.length cap) false) fun x w' => x = .returned (.tuple #[.int .i64 (ri key l), .bool true]) ∧ Below (rpW w (.slice (some ⟨g, off, none⟩) l.length cap) false).heap.size (rpW w (.slice (some ⟨g, off, none⟩) l.length cap) false) w' from (rat_any _ false l key _ (h.below (rpW_below _ _ _)).1 hl).mono (by
    rintro x w' ⟨rfl, hb⟩
    exact ⟨by rw [hs], hb⟩))
  have C2 := hid (show ∀ w1, Below w.heap.size w w1 → w1.cell? ⟨g, off + ri key l * 7 + 1, none⟩ = some (.int .i64 c0) ∧ w1.cell? ⟨g, off + ri key l * 7 + 2, none⟩ = some (.int .i64 c1) ∧ w1.cell? ⟨g, off + ri key l * 7 + 3, none⟩ = some (.bool h0) ∧ w1.cell? ⟨g, off + ri key l * 7 + 4, none⟩ = some (.bool h1) ∧ w1.cell? ⟨g, off + ri key l * 7 + 5, none⟩ = some (.int .i64 (bit r)) ∧ w1.cell? ⟨g, off + ri key l * 7 + 6, none⟩ = some (.int .i64 (bit true)) from fun w1 hb => by
    have R : Rl w1 _ l := Rf.below h.1 hb
    simp only [Nat.add_assoc]
    exact ⟨Rl.cells R _ hk 1 _ (by omega) (by rw [he]; rfl), Rl.cells R _ hk 2 _ (by omega) (by rw [he]; rfl), Rl.cells R _ hk 3 _ (by omega) (by rw [he]; rfl), Rl.cells R _ hk 4 _ (by omega) (by rw [he]; rfl), Rl.cells R _ hk 5 _ (by omega) (by rw [he]; rfl), Rl.cells R _ hk 6 _ (by omega) (by rw [he]; rfl)⟩)
  have RH := hid (show ∀ w1, Calls Try.prog 65 #[.agg #[.int .i64 c0, .int .i64 c1, .bool h0, .bool h1, .int .i64 (bit r), .int .i64 (bit true)]] w1 fun x w' => x = .returned (.bool true) ∧ Below w1.heap.size w1 w' from fun w1 => (rhas_any ⟨c0, c1, h0, h1, r, true⟩ w1).mono (by rintro x w' ⟨rfl, hb⟩; exact ⟨by rw [hh], hb⟩))
  obtain ⟨y0, y1⟩ := cells2 (rpW_s w (.slice (some ⟨g, off, none⟩) l.length cap) false)
  have HLL := hid (show (l.take (ri key l) ++ (key, ⟨c0, 0, h0, false, true, true⟩) :: l.drop (ri key l + 1)).length ≤ 1000000 from by simp; omega)
  have H := hid h
  have HL := hid hl
  have HK := hid hk
  have hc0 : (0 : Int) ≤ ri key l := by omega
  have hc1 : (ri key l : Int) < l.length := by omega
  clear h hl hs he hh
  generalize bit r = zr at C2 RH
  simp only [bit, if_true] at C2 RH
  go_enter Try.func35, Try.ntmps35
  go_wp2_with (first
    | (go_at_call 63
       refine A2.out.mono ?_
       rintro e w1 ⟨rfl, hb⟩
       have B1 := hid (below_on (rpW_below w (.slice (some ⟨g, off, none⟩) l.length cap) false) hb)
       have S1 := hid (hp_below (rpW_s w (.slice (some ⟨g, off, none⟩) l.length cap) false) hb (by rw [rpW_size]; omega))
       have R1 := hid (hp_below (rpW_r w (.slice (some ⟨g, off, none⟩) l.length cap) false) hb (by rw [rpW_size]; omega))
       obtain ⟨x0, x1⟩ := cells2 S1.out
       obtain ⟨v1, v2, v3, v4, v5, v6⟩ := C2.out w1 B1.out
       clear hb y0 y1)
    | (go_at_call 65
       refine (RH.out w1).mono ?_
       rintro e w2 ⟨rfl, hb⟩
       have B2 := hid ((below_on B1.out hb).alloc (below_on B1.out hb).size (.cells #[.int .i64 c0, .int .i64 0, .bool h0, .bool false, .int .i64 1, .int .i64 1] 56))
       have R2 := hid (hp_below R1.out hb (hp_lt R1.out))
       have S2 := hid (hp_below S1.out hb (hp_lt S1.out))
       obtain ⟨z0, z1⟩ := cells2 S2.out
       obtain ⟨k0, k1⟩ := cells2 (hp_alloc S2.out (.cells #[.int .i64 c0, .int .i64 0, .bool h0, .bool false, .int .i64 1, .int .i64 1] 56))
       obtain ⟨v1, v2, v3, v4, v5, v6⟩ := C2.out w2 (below_on B1.out hb)
       clear hb)
    | (go_at_call 64
       refine (rwith1_any (.slice (some ⟨g, off, none⟩) l.length cap) false l (ri key l) (key, ⟨c0, 0, h0, false, true, true⟩) (w2.alloc (.cells #[.int .i64 c0, .int .i64 0, .bool h0, .bool false, .int .i64 1, .int .i64 1] 56)) (H.out.below B2.out) HK.out HL.out).mono ?_
       rintro e w3 ⟨u, rfl, hu, hb⟩
       obtain ⟨ao2, cap2, eu, -, -⟩ := hu.1.shape
       generalize (_ : List Pl).length = n2 at eu
       subst eu
       have S3 := hid (hp_below (hp_alloc S2.out (.cells #[.int .i64 c0, .int .i64 0, .bool h0, .bool false, .int .i64 1, .int .i64 1] 56)) hb (by have := hp_lt S2.out; simp; omega))
       have R3 := hid (hp_below (hp_alloc R2.out (.cells #[.int .i64 c0, .int .i64 0, .bool h0, .bool false, .int .i64 1, .int .i64 1] 56)) hb (by have := hp_lt R2.out; simp; omega))
       have V := hid (rp_set (m := false) hu S3.out (below_on B2.out hb) (Nat.le_refl _))
       have ff : ∀ j, w3.frozen? ⟨w.heap.size, j, none⟩ = false := fun j => free_of_block S3.out
       have fr : ∀ j, w3.frozen? ⟨w.heap.size + 1, j, none⟩ = false := fun j => free_of_block R3.out
       obtain ⟨j0, j1⟩ := cells2 S3.out
       obtain ⟨r0, r1⟩ := cells2 R3.out
       clear hu hb)
    | (go_at_call 66
       refine (rkept_any _ false _ _ V.out.1 HLL.out).mono ?_
       rintro e w4 ⟨u4, rfl, hu4, hb4⟩
       obtain ⟨ao4, cap4, eu4, -, -⟩ := hu4.1.shape
       generalize (_ : List Pl).length = n4 at eu4
       subst eu4
       have U4 := hid hu4
       have B4 := hid (below_on V.out.2 hb4)
       have R4 := hid (hp_below (hp_set (hp_set R3.out (by show w.heap.size + 1 ≠ w.heap.size; omega) _) (by show w.heap.size + 1 ≠ w.heap.size; omega) _) hb4 (by have := hp_lt R3.out; simpa [World.setCell] using this))
       have fr4 : ∀ j, w4.frozen? ⟨w.heap.size + 1, j, none⟩ = false := fun j => free_of_block R4.out
       obtain ⟨q0, q1⟩ := cells2 R4.out
       clear hb4 hu4))
  refine bodyPost_ret (ret_agg34 Try.results35 rfl (set2 R4.out _ _)) rfl ?_
  obtain ⟨h1, h2⟩ := rp_set (m := false) U4.out R4.out B4.out (by omega)
  exact ⟨_, rfl, h1, h2⟩

set_option maxRecDepth 100000 in
set_option maxHeartbeats 8000000 in
theorem rdel_01 (v : Value) (l : List Pl) (key : ByteArray) (w : World) (h : RL w v l) (hl : l.length ≤ 1000000) (hs : rs key l = true) (c0 c1 : Int) (h0 h1 r : Bool) (hk : ri key l < l.length) (he : l[ri key l] = (key, ⟨c0, c1, h0, h1, r, false⟩)) (hh : (⟨c0, c1, h0, h1, r, false⟩ : Sd).has r = true) : Calls Try.prog 35 #[.agg #[v, .bool true], .string key] w fun x w' => ∃ v', x = .returned (.agg #[v', .bool true]) ∧ RL w' v' (l.take (ri key l) ++ (key, ⟨0, c1, false, h1, false, false⟩) :: l.drop (ri key l + 1)) ∧ Below w.heap.size w w' := by
  obtain ⟨g, off, cap, rfl, -, -, -⟩ := h.1.lits (by omega) (by omega)
  have A2 := hid (show Calls Try.prog 63 #[.agg #[.slice (some ⟨g, off, none⟩) l.length cap, .bool true], .string key] (rpW w (.slice (some ⟨g, off, none⟩) l.length cap) true) fun x w' => x = .returned (.tuple #[.int .i64 (ri key l), .bool true]) ∧ Below (rpW w (.slice (some ⟨g, off, none⟩) l.length cap) true).heap.size (rpW w (.slice (some ⟨g, off, none⟩) l.length cap) true) w' from (rat_any _ true l key _ (h.below (rpW_below _ _ _)).1 hl).mono (by
    rintro x w' ⟨rfl, hb⟩
    exact ⟨by rw [hs], hb⟩))
  have C2 := hid (show ∀ w1, Below w.heap.size w w1 → w1.cell? ⟨g, off + ri key l * 7 + 1, none⟩ = some (.int .i64 c0) ∧ w1.cell? ⟨g, off + ri key l * 7 + 2, none⟩ = some (.int .i64 c1) ∧ w1.cell? ⟨g, off + ri key l * 7 + 3, none⟩ = some (.bool h0) ∧ w1.cell? ⟨g, off + ri key l * 7 + 4, none⟩ = some (.bool h1) ∧ w1.cell? ⟨g, off + ri key l * 7 + 5, none⟩ = some (.int .i64 (bit r)) ∧ w1.cell? ⟨g, off + ri key l * 7 + 6, none⟩ = some (.int .i64 (bit false)) from fun w1 hb => by
    have R : Rl w1 _ l := Rf.below h.1 hb
    simp only [Nat.add_assoc]
    exact ⟨Rl.cells R _ hk 1 _ (by omega) (by rw [he]; rfl), Rl.cells R _ hk 2 _ (by omega) (by rw [he]; rfl), Rl.cells R _ hk 3 _ (by omega) (by rw [he]; rfl), Rl.cells R _ hk 4 _ (by omega) (by rw [he]; rfl), Rl.cells R _ hk 5 _ (by omega) (by rw [he]; rfl), Rl.cells R _ hk 6 _ (by omega) (by rw [he]; rfl)⟩)
  have RH := hid (show ∀ w1, Calls Try.prog 65 #[.agg #[.int .i64 c0, .int .i64 c1, .bool h0, .bool h1, .int .i64 (bit r), .int .i64 (bit false)]] w1 fun x w' => x = .returned (.bool true) ∧ Below w1.heap.size w1 w' from fun w1 => (rhas_any ⟨c0, c1, h0, h1, r, false⟩ w1).mono (by rintro x w' ⟨rfl, hb⟩; exact ⟨by rw [hh], hb⟩))
  obtain ⟨y0, y1⟩ := cells2 (rpW_s w (.slice (some ⟨g, off, none⟩) l.length cap) true)
  have HLL := hid (show (l.take (ri key l) ++ (key, ⟨0, c1, false, h1, false, false⟩) :: l.drop (ri key l + 1)).length ≤ 1000000 from by simp; omega)
  have H := hid h
  have HL := hid hl
  have HK := hid hk
  have hc0 : (0 : Int) ≤ ri key l := by omega
  have hc1 : (ri key l : Int) < l.length := by omega
  clear h hl hs he hh
  generalize bit r = zr at C2 RH
  simp only [bit, Bool.false_eq_true, if_false] at C2 RH
  go_enter Try.func35, Try.ntmps35
  go_wp2_with (first
    | (go_at_call 63
       refine A2.out.mono ?_
       rintro e w1 ⟨rfl, hb⟩
       have B1 := hid (below_on (rpW_below w (.slice (some ⟨g, off, none⟩) l.length cap) true) hb)
       have S1 := hid (hp_below (rpW_s w (.slice (some ⟨g, off, none⟩) l.length cap) true) hb (by rw [rpW_size]; omega))
       have R1 := hid (hp_below (rpW_r w (.slice (some ⟨g, off, none⟩) l.length cap) true) hb (by rw [rpW_size]; omega))
       obtain ⟨x0, x1⟩ := cells2 S1.out
       obtain ⟨v1, v2, v3, v4, v5, v6⟩ := C2.out w1 B1.out
       clear hb y0 y1)
    | (go_at_call 65
       refine (RH.out w1).mono ?_
       rintro e w2 ⟨rfl, hb⟩
       have B2 := hid ((below_on B1.out hb).alloc (below_on B1.out hb).size (.cells #[.int .i64 0, .int .i64 c1, .bool false, .bool h1, .int .i64 0, .int .i64 0] 56))
       have R2 := hid (hp_below R1.out hb (hp_lt R1.out))
       have S2 := hid (hp_below S1.out hb (hp_lt S1.out))
       obtain ⟨z0, z1⟩ := cells2 S2.out
       obtain ⟨k0, k1⟩ := cells2 (hp_alloc S2.out (.cells #[.int .i64 0, .int .i64 c1, .bool false, .bool h1, .int .i64 0, .int .i64 0] 56))
       obtain ⟨v1, v2, v3, v4, v5, v6⟩ := C2.out w2 (below_on B1.out hb)
       clear hb)
    | (go_at_call 64
       refine (rwith1_any (.slice (some ⟨g, off, none⟩) l.length cap) true l (ri key l) (key, ⟨0, c1, false, h1, false, false⟩) (w2.alloc (.cells #[.int .i64 0, .int .i64 c1, .bool false, .bool h1, .int .i64 0, .int .i64 0] 56)) (H.out.below B2.out) HK.out HL.out).mono ?_
       rintro e w3 ⟨u, rfl, hu, hb⟩
       obtain ⟨ao2, cap2, eu, -, -⟩ := hu.1.shape
       generalize (_ : List Pl).length = n2 at eu
       subst eu
       have S3 := hid (hp_below (hp_alloc S2.out (.cells #[.int .i64 0, .int .i64 c1, .bool false, .bool h1, .int .i64 0, .int .i64 0] 56)) hb (by have := hp_lt S2.out; simp; omega))
       have R3 := hid (hp_below (hp_alloc R2.out (.cells #[.int .i64 0, .int .i64 c1, .bool false, .bool h1, .int .i64 0, .int .i64 0] 56)) hb (by have := hp_lt R2.out; simp; omega))
       have V := hid (rp_set (m := true) hu S3.out (below_on B2.out hb) (Nat.le_refl _))
       have ff : ∀ j, w3.frozen? ⟨w.heap.size, j, none⟩ = false := fun j => free_of_block S3.out
       have fr : ∀ j, w3.frozen? ⟨w.heap.size + 1, j, none⟩ = false := fun j => free_of_block R3.out
       obtain ⟨j0, j1⟩ := cells2 S3.out
       obtain ⟨r0, r1⟩ := cells2 R3.out
       clear hu hb))
  refine bodyPost_ret (ret_agg34 Try.results35 rfl (set2 (hp_set (hp_set R3.out (by show w.heap.size + 1 ≠ w.heap.size; omega) _) (by show w.heap.size + 1 ≠ w.heap.size; omega) _) _ _)) rfl ?_
  obtain ⟨h1, h2⟩ := rp_set (m := true) V.out.1 (hp_set (hp_set R3.out (by show w.heap.size + 1 ≠ w.heap.size; omega) _) (by show w.heap.size + 1 ≠ w.heap.size; omega) _) V.out.2 (by omega)
  exact ⟨_, rfl, h1, h2⟩

set_option maxRecDepth 100000 in
set_option maxHeartbeats 8000000 in
theorem rdel_00 (v : Value) (l : List Pl) (key : ByteArray) (w : World) (h : RL w v l) (hl : l.length ≤ 1000000) (hs : rs key l = true) (c0 c1 : Int) (h0 h1 r : Bool) (hk : ri key l < l.length) (he : l[ri key l] = (key, ⟨c0, c1, h0, h1, r, false⟩)) (hh : (⟨c0, c1, h0, h1, r, false⟩ : Sd).has r = true) : Calls Try.prog 35 #[.agg #[v, .bool false], .string key] w fun x w' => ∃ v', x = .returned (.agg #[v', .bool false]) ∧ RL w' v' ((l.take (ri key l) ++ (key, ⟨0, c1, false, h1, false, false⟩) :: l.drop (ri key l + 1)).filter keepP) ∧ Below w.heap.size w w' := by
  obtain ⟨g, off, cap, rfl, -, -, -⟩ := h.1.lits (by omega) (by omega)
  have A2 := hid (show Calls Try.prog 63 #[.agg #[.slice (some ⟨g, off, none⟩) l.length cap, .bool false], .string key] (rpW w (.slice (some ⟨g, off, none⟩) l.length cap) false) fun x w' => x = .returned (.tuple #[.int .i64 (ri key l), .bool true]) ∧ Below (rpW w (.slice (some ⟨g, off, none⟩) l.length cap) false).heap.size (rpW w (.slice (some ⟨g, off, none⟩) l.length cap) false) w' from (rat_any _ false l key _ (h.below (rpW_below _ _ _)).1 hl).mono (by
    rintro x w' ⟨rfl, hb⟩
    exact ⟨by rw [hs], hb⟩))
  have C2 := hid (show ∀ w1, Below w.heap.size w w1 → w1.cell? ⟨g, off + ri key l * 7 + 1, none⟩ = some (.int .i64 c0) ∧ w1.cell? ⟨g, off + ri key l * 7 + 2, none⟩ = some (.int .i64 c1) ∧ w1.cell? ⟨g, off + ri key l * 7 + 3, none⟩ = some (.bool h0) ∧ w1.cell? ⟨g, off + ri key l * 7 + 4, none⟩ = some (.bool h1) ∧ w1.cell? ⟨g, off + ri key l * 7 + 5, none⟩ = some (.int .i64 (bit r)) ∧ w1.cell? ⟨g, off + ri key l * 7 + 6, none⟩ = some (.int .i64 (bit false)) from fun w1 hb => by
    have R : Rl w1 _ l := Rf.below h.1 hb
    simp only [Nat.add_assoc]
    exact ⟨Rl.cells R _ hk 1 _ (by omega) (by rw [he]; rfl), Rl.cells R _ hk 2 _ (by omega) (by rw [he]; rfl), Rl.cells R _ hk 3 _ (by omega) (by rw [he]; rfl), Rl.cells R _ hk 4 _ (by omega) (by rw [he]; rfl), Rl.cells R _ hk 5 _ (by omega) (by rw [he]; rfl), Rl.cells R _ hk 6 _ (by omega) (by rw [he]; rfl)⟩)
  have RH := hid (show ∀ w1, Calls Try.prog 65 #[.agg #[.int .i64 c0, .int .i64 c1, .bool h0, .bool h1, .int .i64 (bit r), .int .i64 (bit false)]] w1 fun x w' => x = .returned (.bool true) ∧ Below w1.heap.size w1 w' from fun w1 => (rhas_any ⟨c0, c1, h0, h1, r, false⟩ w1).mono (by rintro x w' ⟨rfl, hb⟩; exact ⟨by rw [hh], hb⟩))
  obtain ⟨y0, y1⟩ := cells2 (rpW_s w (.slice (some ⟨g, off, none⟩) l.length cap) false)
  have HLL := hid (show (l.take (ri key l) ++ (key, ⟨0, c1, false, h1, false, false⟩) :: l.drop (ri key l + 1)).length ≤ 1000000 from by simp; omega)
  have H := hid h
  have HL := hid hl
  have HK := hid hk
  have hc0 : (0 : Int) ≤ ri key l := by omega
  have hc1 : (ri key l : Int) < l.length := by omega
  clear h hl hs he hh
  generalize bit r = zr at C2 RH
  simp only [bit, Bool.false_eq_true, if_false] at C2 RH
  go_enter Try.func35, Try.ntmps35
  go_wp2_with (first
    | (go_at_call 63
       refine A2.out.mono ?_
       rintro e w1 ⟨rfl, hb⟩
       have B1 := hid (below_on (rpW_below w (.slice (some ⟨g, off, none⟩) l.length cap) false) hb)
       have S1 := hid (hp_below (rpW_s w (.slice (some ⟨g, off, none⟩) l.length cap) false) hb (by rw [rpW_size]; omega))
       have R1 := hid (hp_below (rpW_r w (.slice (some ⟨g, off, none⟩) l.length cap) false) hb (by rw [rpW_size]; omega))
       obtain ⟨x0, x1⟩ := cells2 S1.out
       obtain ⟨v1, v2, v3, v4, v5, v6⟩ := C2.out w1 B1.out
       clear hb y0 y1)
    | (go_at_call 65
       refine (RH.out w1).mono ?_
       rintro e w2 ⟨rfl, hb⟩
       have B2 := hid ((below_on B1.out hb).alloc (below_on B1.out hb).size (.cells #[.int .i64 0, .int .i64 c1, .bool false, .bool h1, .int .i64 0, .int .i64 0] 56))
       have R2 := hid (hp_below R1.out hb (hp_lt R1.out))
       have S2 := hid (hp_below S1.out hb (hp_lt S1.out))
       obtain ⟨z0, z1⟩ := cells2 S2.out
       obtain ⟨k0, k1⟩ := cells2 (hp_alloc S2.out (.cells #[.int .i64 0, .int .i64 c1, .bool false, .bool h1, .int .i64 0, .int .i64 0] 56))
       obtain ⟨v1, v2, v3, v4, v5, v6⟩ := C2.out w2 (below_on B1.out hb)
       clear hb)
    | (go_at_call 64
       refine (rwith1_any (.slice (some ⟨g, off, none⟩) l.length cap) false l (ri key l) (key, ⟨0, c1, false, h1, false, false⟩) (w2.alloc (.cells #[.int .i64 0, .int .i64 c1, .bool false, .bool h1, .int .i64 0, .int .i64 0] 56)) (H.out.below B2.out) HK.out HL.out).mono ?_
       rintro e w3 ⟨u, rfl, hu, hb⟩
       obtain ⟨ao2, cap2, eu, -, -⟩ := hu.1.shape
       generalize (_ : List Pl).length = n2 at eu
       subst eu
       have S3 := hid (hp_below (hp_alloc S2.out (.cells #[.int .i64 0, .int .i64 c1, .bool false, .bool h1, .int .i64 0, .int .i64 0] 56)) hb (by have := hp_lt S2.out; simp; omega))
       have R3 := hid (hp_below (hp_alloc R2.out (.cells #[.int .i64 0, .int .i64 c1, .bool false, .bool h1, .int .i64 0, .int .i64 0] 56)) hb (by have := hp_lt R2.out; simp; omega))
       have V := hid (rp_set (m := false) hu S3.out (below_on B2.out hb) (Nat.le_refl _))
       have ff : ∀ j, w3.frozen? ⟨w.heap.size, j, none⟩ = false := fun j => free_of_block S3.out
       have fr : ∀ j, w3.frozen? ⟨w.heap.size + 1, j, none⟩ = false := fun j => free_of_block R3.out
       obtain ⟨j0, j1⟩ := cells2 S3.out
       obtain ⟨r0, r1⟩ := cells2 R3.out
       clear hu hb)
    | (go_at_call 66
       refine (rkept_any _ false _ _ V.out.1 HLL.out).mono ?_
       rintro e w4 ⟨u4, rfl, hu4, hb4⟩
       obtain ⟨ao4, cap4, eu4, -, -⟩ := hu4.1.shape
       generalize (_ : List Pl).length = n4 at eu4
       subst eu4
       have U4 := hid hu4
       have B4 := hid (below_on V.out.2 hb4)
       have R4 := hid (hp_below (hp_set (hp_set R3.out (by show w.heap.size + 1 ≠ w.heap.size; omega) _) (by show w.heap.size + 1 ≠ w.heap.size; omega) _) hb4 (by have := hp_lt R3.out; simpa [World.setCell] using this))
       have fr4 : ∀ j, w4.frozen? ⟨w.heap.size + 1, j, none⟩ = false := fun j => free_of_block R4.out
       obtain ⟨q0, q1⟩ := cells2 R4.out
       clear hb4 hu4))
  refine bodyPost_ret (ret_agg34 Try.results35 rfl (set2 R4.out _ _)) rfl ?_
  obtain ⟨h1, h2⟩ := rp_set (m := false) U4.out R4.out B4.out (by omega)
  exact ⟨_, rfl, h1, h2⟩

end Go.Proofs.Ythjggbcppgbdoaa

namespace Go.Proofs.Ythjggbcppgbdoaa
open Go.RowKit

/-- Where a key is found, its place is its own. -/
theorem rs_at {key : ByteArray} {l : List Pl} (hs : rs key l = true) : ∃ hk : ri key l < l.length, l[ri key l].1 = key := by
  unfold rs at hs
  rcases Nat.lt_or_ge (ri key l) l.length with h1 | h1
  · rw [List.getElem?_eq_getElem h1] at hs
    exact ⟨h1, by simpa using hs⟩
  · rw [List.getElem?_eq_none h1] at hs; cases hs

/-- What Delete makes of the document's list. -/
def rdelL (key : ByteArray) (m : Bool) (l : List Pl) : List Pl := match l[ri key l]? with
  | some e => if rs key l = true ∧ e.2.has e.2.r = true then
      (if m = true then l.take (ri key l) ++ (key, e.2.lay 0 false) :: l.drop (ri key l + 1) else (l.take (ri key l) ++ (key, e.2.lay 0 false) :: l.drop (ri key l + 1)).filter keepP) else l
  | none => l

theorem rdel_any (v : Value) (m : Bool) (l : List Pl) (key : ByteArray) (w : World) (h : RL w v l) (hl : l.length ≤ 1000000) : Calls Try.prog 35 #[.agg #[v, .bool m], .string key] w fun x w' => ∃ v', x = .returned (.agg #[v', .bool m]) ∧ RL w' v' (rdelL key m l) ∧ Below w.heap.size w w' := by
  cases hs : rs key l
  · have e : rdelL key m l = l := by
      unfold rdelL
      cases l[ri key l]? with
      | none => rfl
      | some e => simp [hs]
    rw [e]
    exact (rdel_no v m l key w h hl hs).mono (by rintro x w' ⟨rfl, hb⟩; exact ⟨v, rfl, h.below hb, hb⟩)
  · obtain ⟨hk, he⟩ := rs_at hs
    obtain ⟨s, hE⟩ : ∃ s, l[ri key l] = (key, s) := ⟨l[ri key l].2, Prod.ext he rfl⟩
    cases hh : s.has s.r
    · have e : rdelL key m l = l := by
        unfold rdelL
        rw [List.getElem?_eq_getElem hk, hE]
        simp [hh]
      rw [e]
      exact (rdel_nil v m l key w h hl hs s hk hE hh).mono (by rintro x w' ⟨rfl, hb⟩; exact ⟨v, rfl, h.below hb, hb⟩)
    · have e : rdelL key m l = if m = true then l.take (ri key l) ++ (key, s.lay 0 false) :: l.drop (ri key l + 1) else (l.take (ri key l) ++ (key, s.lay 0 false) :: l.drop (ri key l + 1)).filter keepP := by
        unfold rdelL
        rw [List.getElem?_eq_getElem hk, hE]
        simp [hh, hs]
      rw [e]
      obtain ⟨c0, c1, h0, h1, r, wb⟩ := s
      cases wb <;> cases m
      · exact rdel_00 v l key w h hl hs c0 c1 h0 h1 r hk hE hh
      · exact rdel_01 v l key w h hl hs c0 c1 h0 h1 r hk hE hh
      · exact rdel_10 v l key w h hl hs c0 c1 h0 h1 r hk hE hh
      · exact rdel_11 v l key w h hl hs c0 c1 h0 h1 r hk hE hh

end Go.Proofs.Ythjggbcppgbdoaa

namespace Go.Proofs.Ythjggbcppgbdoaa
open Go.RowKit
set_option maxRecDepth 100000 in
set_option maxHeartbeats 4000000 in
theorem rmark_busy (v : Value) (l : List Pl) (w : World) (h : RL w v l) : Calls Try.prog 36 #[.agg #[v, .bool true]] w fun x w' => x = .returned (.tuple #[.agg #[v, .bool true], .int .i64 18]) ∧ Below w.heap.size w w' := by
  obtain ⟨ao, cap, e, -, -⟩ := h.1.shape
  subst e
  clear h
  go_enter Try.func36, Try.ntmps36
  go_wp2
  refine bodyPost_ret (ret_agg34i Try.results36 rfl rfl (by have := hp_new (w.alloc (.cells #[.slice ao l.length cap, .bool true] 34)) (.cells #[.slice ao l.length cap, .bool true] 34); simpa using this)) rfl ?_
  exact ⟨rfl, (below_new _ _).alloc (by simp) _⟩

end Go.Proofs.Ythjggbcppgbdoaa

namespace Go.Proofs.Ythjggbcppgbdoaa
open Go.RowKit

/-- What a loop over the table's Range keeps between its rounds. B: the heap's size where the loop begins. -/
structure RangeI (B : Nat) (o : Option Addr) (frm to : ByteArray) (g1 g2 g3 : Nat) (I : Nat → Nat → Nat → Nat → Bool → ByteArray → Tr → World → Prop) (Ix : World → Prop) : Prop where
  tb : ∀ {gf gl gt m st last t w}, I gf gl gt m st last t w → TO w o t ∧ Short t
  it : ∀ {gf gl gt m st last t w}, I gf gl gt m st last t w → It w g1 g2 g3 o frm to
  keep : ∀ {gf gl gt m st last t w w' S}, I gf gl gt m st last t w → Kept S w w' → (∀ k, S k → k = gf ∨ k = gl ∨ k = gt ∨ (B ≤ k ∧ ∃ ob : Obj, w.heap[k]? = some ob ∧ ob.isCells = false)) → I gf gl gt m st last t w'
  keepx : ∀ {w w' S}, Ix w → Kept S w w' → (∀ k, S k → B ≤ k ∧ ∃ ob : Obj, w.heap[k]? = some ob ∧ ob.isCells = false) → Ix w'

/-- How a round's body may be left. -/
def RangePost (B gf gl gt m : Nat) (k : ByteArray) (I : Nat → Nat → Nat → Nat → Bool → ByteArray → Tr → World → Prop) (Ix : World → Prop) (W : World) : Exit → Act → World → Prop
  | .normal, _, W' => KeepsFrom B W W' ∧ BoxedX gf gl gt W W' ∧ ∃ m' t', m' < m ∧ I gf gl gt m' true k t' W'
  | .ret, _, W' => KeepsFrom B W W' ∧ BoxedX gf gl gt W W' ∧ Ix W'
  | _, _, _ => False

theorem kept_put (W : World) (l : Nat) (ob : Obj) : Kept (fun j => j = l) W (W.putObj l ob) :=
  (Kept.refl (fun j => j = l) W).grown (grownBy_putObj' W l ob) (fun k _ e => by injection e with e; exact e.symm)

theorem put_off {W : World} {l j : Nat} (ob : Obj) (h : j ≠ l) : (W.putObj l ob).heap[j]? = W.heap[j]? := World.putObj_heap_other h

/-- A loop over the table's Range. -/
theorem rangeY {g : Operand} {ps : Array Tmp} {assign body : Code} {Q : Exit → Act → World → Prop} {a : Act} {w : World} {o : Option Addr} {frm to : ByteArray} {g1 g2 g3 : Nat}
    (hg : a.eval g = itV g1 g2 g3) (hps : ps.size = 2) {I : Nat → Nat → Nat → Nat → Bool → ByteArray → Tr → World → Prop} {Ix : World → Prop} (H : RangeI w.heap.size o frm to g1 g2 g3 I Ix) (m0 : Nat) (t0 : Tr) (hi : It w g1 g2 g3 o frm to)
    (h0 : ∀ gf gl gt w1, Below w.heap.size w w1 → w.heap.size ≤ gf → w.heap.size ≤ gl → w.heap.size ≤ gt → SB w1 gf gl gt o false frm → I gf gl gt m0 false frm t0 w1)
    (a1 : ByteArray → Value → Act)
    (hassign : ∀ (n l : Nat) (k : ByteArray) (v : Value) (W : World) (K : Act → World → Prop), K (a1 k v) W →
      assign.wpIn (Fence.wide.inRound l) n Try.prog (Exit.then K (fun _ _ _ => False)) { tmps := (ps.zip #[.string k, v]).foldl (fun t (p, u) => t.setIfInBounds p u) a.tmps, defers := [] } W)
    (hbody : ∀ (n l gf gl gt m : Nat) (st : Bool) (last : ByteArray) (t : Tr) (W : World) (b : Nat) (k : ByteArray) (v : Value), I gf gl gt m st last t W → nx st last t.toL = some (b, k, v) → (to = ⟨#[]⟩ ∨ kl to k = false) → 
      body.wpIn (Fence.wide.inRound l) n Try.prog (RangePost w.heap.size gf gl gt m k I Ix W) (a1 k v) W)
    (hdone : ∀ (D : Nat) (W : World) (gf gl gt m : Nat) (st : Bool) (last : ByteArray) (t : Tr), w.heap.size ≤ D → I gf gl gt m st last t W → Ended to st last t.toL → W.heap[D]? = some (.deferred (some [])) → Q .normal { a with defers := { target := .collected D, args := #[] } :: a.defers } W)
    (hstop : ∀ (D : Nat) (W : World), w.heap.size ≤ D → Ix W → W.heap[D]? = some (.deferred (some [])) → Q .ret { a with defers := { target := .collected D, args := #[] } :: a.defers } W) :
    (Code.rangeFunc g ps assign body).wp Try.prog Q a w := by
  refine (wpIn_wide (n := 9)).1 (wpIn_rangeFunc ?_)
  intro fn hfn
  obtain ⟨rc, hrc⟩ : ∃ rc : LoopState → Option Code → Loop, rc = fun st pe => { state := st, pending := pe, fn, tmps := a.tmps, params := ps, assign, body, defers := w.heap.size } := ⟨_, rfl⟩
  obtain ⟨L, hL⟩ : ∃ L, L = w.heap.size + 1 := ⟨_, rfl⟩
  obtain ⟨W1, hW1⟩ : ∃ W1, W1 = (w.alloc (.deferred (some []))).alloc (.loop (rc .ready none)) := ⟨_, rfl⟩
  have hsz : W1.heap.size = w.heap.size + 2 := by rw [hW1]; simp
  have hb1 : Below w.heap.size w W1 := by rw [hW1]; exact ((below_new w _)).alloc (by simp) _
  have hD1 : W1.heap[w.heap.size]? = some (.deferred (some [])) := by rw [hW1]; exact hp_alloc (hp_new w _) _
  have hL1 : W1.heap[L]? = some (.loop (rc .ready none)) := by
    rw [hW1, hL]
    have := hp_new (w.alloc (.deferred (some []))) (.loop (rc .ready none))
    rwa [World.size_alloc] at this
  refine ⟨L, [{ target := .collected w.heap.size, args := #[] }], W1, { target := .fn (.func 76) #[.pointer (some ⟨g1, 0, none⟩), .pointer (some ⟨g2, 0, none⟩), .pointer (some ⟨g3, 0, none⟩)], args := #[.func (.yield L) #[] #[]] }, W1, 76,
    #[.func (.yield L) #[] #[], .pointer (some ⟨g1, 0, none⟩), .pointer (some ⟨g2, 0, none⟩), .pointer (some ⟨g3, 0, none⟩)], W1, ?_, ?_, ?_, ?_, ?_, callsIn_wide.2 ?_⟩
  · rw [hW1, hL, hrc]
    exact run_enterLoop_outer _ _ _ _ _
  · simp only [resolve, hg]
    simp [go_sem]
  · intro f' _
    exact trivial
  · simp [invoke, go_sem]
  · intro hd
    cases hd
  · have HB : BodyY L o frm to g1 g2 g3
        (fun gf gl gt m st last t W => I gf gl gt m st last t W ∧ W.heap[L]? = some (.loop (rc .ready none)) ∧ W.heap[w.heap.size]? = some (.deferred (some [])) ∧ (∀ j, j = gf ∨ j = gl ∨ j = gt → L < j))
        (fun W => Ix W ∧ W.heap[L]? = some (.loop (rc .done (some .ret))) ∧ W.heap[w.heap.size]? = some (.deferred (some []))) := by
      refine ⟨fun h => H.tb h.1, fun h => H.it h.1, ?_, ?_⟩
      · intro gf gl gt m st last t A B S h hk hS
        refine ⟨H.keep h.1 hk (fun k hk' => ?_), ?_, ?_, h.2.2.2⟩
        · rcases hS k hk' with e | e | e
          · exact .inl e
          · exact .inr (.inl e)
          · exact .inr (.inr (.inl e))
        · exact hp_kept h.2.1 hk (fun e => by have := h.2.2.2 _ (hS _ e); omega)
        · exact hp_kept h.2.2.1 hk (fun e => by have := h.2.2.2 _ (hS _ e); omega)
      · intro gf gl gt m st last t W b k v h hq hc n'
        obtain ⟨hI, hl, hd, ho⟩ := h
        have hy := run_yield (P := Try.prog) (args := #[.string k, v]) hl (by rw [hrc]; exact hps.symm)
        rw [hrc] at hy
        refine ⟨fn, _, assign, body, hy, ?_⟩
        refine roundIn_of_wpIn trivial (hassign n' L k v W _ ?_)
        obtain ⟨W2, hW2⟩ : ∃ W2, W2 = W.putObj L (.loop { rc .ready none with state := .busy }) := ⟨_, rfl⟩
        have hLl : L < W.heap.size := hp_lt hl
        have hl2 : W2.heap[L]? = some (.loop { rc .ready none with state := .busy }) := by rw [hW2]; exact World.putObj_heap_same hLl
        have hd2 : W2.heap[w.heap.size]? = some (.deferred (some [])) := by rw [hW2, put_off _ (by omega)]; exact hd
        have k2 : Kept (fun j => j = L) W W2 := by rw [hW2]; exact kept_put _ _ _
        have hI2 := H.keep hI k2 (fun j e => .inr (.inr (.inr ⟨by subst e; omega, _, by subst e; exact hl, rfl⟩)))
        refine ⟨W2, by rw [hW2]; exact run_beginRound hl (by rw [hrc]), wpIn_mono (hbody n' L gf gl gt m st last t W2 b k v hI2 hq hc) ?_⟩
        have FIN : ∀ (jump : Option Code) (W3 : World), KeepsFrom w.heap.size W2 W3 → BoxedX gf gl gt W2 W3 → ∃ W4, (Instr.endRound L jump).run Try.prog W3 = .ok (.bool jump.isNone) W4 ∧ Kept (fun j => j = L) W3 W4 ∧ W3.heap[L]? = some (.loop { rc .ready none with state := .busy }) ∧
            W4.heap[L]? = some (.loop (rc (if jump.isNone then .ready else .done) jump)) ∧ W4.heap[w.heap.size]? = some (.deferred (some [])) ∧ BoxedX gf gl gt W W4 := by
          intro jump W3 hk3 hbx
          have hl3 := hk3.same _ _ (by omega) hl2 rfl
          have hd3 := hk3.same _ _ (Nat.le_refl _) hd2 rfl
          have hr := run_endRound (P := Try.prog) jump hl3
          refine ⟨_, hr, kept_put _ _ _, hl3, ?_, ?_, ?_⟩
          · rw [World.putObj_heap_same (hp_lt hl3), hrc]
          · rw [put_off _ (by omega)]; exact hd3
          · have e : ∀ j, j = gf ∨ j = gl ∨ j = gt → j ≠ L := fun j hj e => by have := ho j hj; omega
            refine ⟨?_, ?_, ?_⟩
            · rw [put_off _ (e gf (.inl rfl)), hbx.1, hW2, put_off _ (e gf (.inl rfl))]
            · rw [put_off _ (e gl (.inr (.inl rfl))), hbx.2.1, hW2, put_off _ (e gl (.inr (.inl rfl)))]
            · rw [put_off _ (e gt (.inr (.inr rfl))), hbx.2.2, hW2, put_off _ (e gt (.inr (.inr rfl)))]
        intro e a3 W3 hp
        cases e with
        | normal =>
          obtain ⟨hk3, hbx, m', t', hm, hI3⟩ := hp
          obtain ⟨W4, hr, hk4, hl3, hl4, hd4, hb4⟩ := FIN none W3 hk3 hbx
          refine ⟨_, W4, hr, true, rfl, hb4, fun _ => ⟨m', t', hm, H.keep hI3 hk4 (fun j e => .inr (.inr (.inr ⟨by subst e; omega, _, by subst e; exact hl3, rfl⟩))), hl4, hd4, ho⟩, fun e => (by cases e)⟩
        | ret =>
          obtain ⟨hk3, hbx, hx⟩ := hp
          obtain ⟨W4, hr, hk4, hl3, hl4, hd4, hb4⟩ := FIN (some .ret) W3 hk3 hbx
          refine ⟨_, W4, hr, false, rfl, hb4, fun e => (by cases e), fun _ => ⟨H.keepx hx hk4 (fun j e => ⟨by subst e; omega, _, by subst e; exact hl3, rfl⟩), hl4, hd4⟩⟩
        | exit id => exact hp.elim
        | goto t => exact hp.elim
        | panic ch => exact hp.elim
        | outgrown => exact hp.elim
    refine (iterY L HB m0 t0 W1 ?_ ?_).mono ?_
    · intro gf gl gt w1 hb q1 q2 q3 hs
      have hs1 := hsz
      refine ⟨h0 gf gl gt w1 (below_on hb1 hb) (by omega) (by omega) (by omega) hs, hp_below hL1 hb (hp_lt hL1), hp_below hD1 hb (hp_lt hD1), ?_⟩
      rintro j (rfl | rfl | rfl) <;> omega
    · exact ⟨hp_below hi.t hb1 (hp_lt hi.t), hp_below hi.f hb1 (hp_lt hi.f), hp_below hi.e hb1 (hp_lt hi.e)⟩
    · rintro e W2 ⟨rfl, (⟨gf, gl, gt, m, st, last, t, ⟨hI, hl, hd, -⟩, hE⟩ | ⟨hx, hl, hd⟩)⟩
      · refine ⟨none, _, (run_endLoop (P := Try.prog) hl (by rw [hrc]; simp)).trans (by rw [hrc]), ?_⟩
        exact hdone w.heap.size _ gf gl gt m st last t (Nat.le_refl _) (H.keep hI (kept_put _ _ _) (fun j e => .inr (.inr (.inr ⟨by subst e; omega, _, by subst e; exact hl, rfl⟩)))) hE (by rw [put_off _ (by omega)]; exact hd)
      · refine ⟨some .ret, _, (run_endLoop (P := Try.prog) hl (by rw [hrc]; simp)).trans (by rw [hrc]), ?_⟩
        refine wpIn_ret ?_
        exact hstop w.heap.size _ (Nat.le_refl _) (H.keepx hx (kept_put _ _ _) (fun j e => ⟨by subst e; omega, _, by subst e; exact hl, rfl⟩)) (by rw [put_off _ (by omega)]; exact hd)

end Go.Proofs.Ythjggbcppgbdoaa
