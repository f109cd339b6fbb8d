import Derived.Test.YtlmompdfombgeaaGreatK31
import Derived.Test.YtlmompdfombgeaaGreatK28
import Derived.Test.YtlmompdfombgeaaGreatK10
import Derived.Test.YtlmompdfombgeaaGreatK23
namespace Go.Proofs.YtlmompdfombgeaaGreat
open Go.RowKit Go.MapKept

/-- A disk beside the one at hand, behind whatever. -/
structure Hs (w W : World) (x : Nat) (R R' : Rt) (D' : Dq) : Prop where
  rd : RdT W x R' D'
  bl : Below w.heap.size w W
  ft : ∀ k, Rft x R' k → Rft x R k ∨ w.heap.size ≤ k
  tv : R'.tv = .slice none 0 0

theorem Hs.goes {w W W' : World} {x : Nat} {R R1 R2 : Rt} {D1 D2 : Dq} (h : Hs w W x R R1 D1) (hx : w.heap.size ≤ x) (g : RGoes x W R1 D1 W' R2 D2) (hk : Kept (fun q => q = x) W W') (ht : R2.tv = .slice none 0 0) : Hs w W' x R R2 D2 :=
  ⟨g.rd, h.bl.trans (hk.below h.bl.size (fun k hk e => by omega)), fun k e => by
    rcases g.ft k e with e | e
    · exact h.ft k e
    · exact .inr (Nat.le_trans h.bl.size e), ht⟩

theorem Hs.below {w W W' : World} {x : Nat} {R R1 : Rt} {D1 : Dq} (h : Hs w W x R R1 D1) (hb : Below W.heap.size W W') : Hs w W' x R R1 D1 := ⟨h.rd.below hb, bel_on h.bl hb, h.ft, h.tv⟩

theorem Hs.back {w W W' : World} {r x : Nat} {R Rf : Rt} {D Df : Dq} (h : RdT w r R D) (hs : Hs w W x R Rf Df) (hx : w.heap.size ≤ x) (hk : Kept (fun q => q = r) W W') (hd : W'.heap[r]? = some (.cells #[.int .i64 Df.room, .int .i64 Df.limit, .int .i64 Df.made, Rf.lv, Rf.nv, Rf.tv, Rf.sv, Rf.rv, .int .i64 Df.st, .int .i64 Df.rd, .bool Df.off] 58 (0, 0))) : RGoes r w R D W' Rf Df := by
  have hrl := hp_lt h.disk
  have hn : ¬ Rft x Rf r := fun e => by
    rcases hs.ft r e with (e | e | e) | e
    · omega
    · exact h.r1 e
    · exact h.r2 e
    · omega
  refine ⟨{ hs.rd.kept hk (fun k e e2 => hn (e2 ▸ e)) with disk := hd, r1 := fun e => hn (.inr (.inl e)), r2 := fun e => hn (.inr (.inr e)) }, ?_, ?_⟩
  · exact ((Kept.ofBelow hs.bl).mono (S' := Rft r R) (fun _ _ e => e.elim)).trans hk (fun k _ e => .inl e)
  · rintro k (e | e)
    · exact .inl (.inl e)
    · rcases hs.ft k (.inr e) with (e | e) | e
      · exact .inr (by omega)
      · exact .inl (.inr e)
      · exact .inr e

theorem set11 {W : World} {r : Nat} {t : TypeId} {b0 b1 b2 b3 b4 b5 b6 b7 b8 b9 b10 v0 v1 v2 v3 v4 v5 v6 v7 v8 v9 v10 : Value} (h : W.heap[r]? = some (.cells #[b0, b1, b2, b3, b4, b5, b6, b7, b8, b9, b10] t (0, 0))) : (((((((((((W.setCell ⟨r, 0, none⟩ v0).setCell ⟨r, 1, none⟩ v1).setCell ⟨r, 2, none⟩ v2).setCell ⟨r, 3, none⟩ v3).setCell ⟨r, 4, none⟩ v4).setCell ⟨r, 5, none⟩ v5).setCell ⟨r, 6, none⟩ v6).setCell ⟨r, 7, none⟩ v7).setCell ⟨r, 8, none⟩ v8).setCell ⟨r, 9, none⟩ v9).setCell ⟨r, 10, none⟩ v10).heap[r]? = some (.cells #[v0, v1, v2, v3, v4, v5, v6, v7, v8, v9, v10] t (0, 0)) ∧ Kept (fun q => q = r) W (((((((((((W.setCell ⟨r, 0, none⟩ v0).setCell ⟨r, 1, none⟩ v1).setCell ⟨r, 2, none⟩ v2).setCell ⟨r, 3, none⟩ v3).setCell ⟨r, 4, none⟩ v4).setCell ⟨r, 5, none⟩ v5).setCell ⟨r, 6, none⟩ v6).setCell ⟨r, 7, none⟩ v7).setCell ⟨r, 8, none⟩ v8).setCell ⟨r, 9, none⟩ v9).setCell ⟨r, 10, none⟩ v10) := by
  have h1 : (W.setCell ⟨r, 0, none⟩ v0).heap[r]? = some (.cells #[v0, b1, b2, b3, b4, b5, b6, b7, b8, b9, b10] t (0, 0)) := set_block (i := 0) h v0
  have h2 : ((W.setCell ⟨r, 0, none⟩ v0).setCell ⟨r, 1, none⟩ v1).heap[r]? = some (.cells #[v0, v1, b2, b3, b4, b5, b6, b7, b8, b9, b10] t (0, 0)) := set_block (i := 1) h1 v1
  have h3 : (((W.setCell ⟨r, 0, none⟩ v0).setCell ⟨r, 1, none⟩ v1).setCell ⟨r, 2, none⟩ v2).heap[r]? = some (.cells #[v0, v1, v2, b3, b4, b5, b6, b7, b8, b9, b10] t (0, 0)) := set_block (i := 2) h2 v2
  have h4 : ((((W.setCell ⟨r, 0, none⟩ v0).setCell ⟨r, 1, none⟩ v1).setCell ⟨r, 2, none⟩ v2).setCell ⟨r, 3, none⟩ v3).heap[r]? = some (.cells #[v0, v1, v2, v3, b4, b5, b6, b7, b8, b9, b10] t (0, 0)) := set_block (i := 3) h3 v3
  have h5 : (((((W.setCell ⟨r, 0, none⟩ v0).setCell ⟨r, 1, none⟩ v1).setCell ⟨r, 2, none⟩ v2).setCell ⟨r, 3, none⟩ v3).setCell ⟨r, 4, none⟩ v4).heap[r]? = some (.cells #[v0, v1, v2, v3, v4, b5, b6, b7, b8, b9, b10] t (0, 0)) := set_block (i := 4) h4 v4
  have h6 : ((((((W.setCell ⟨r, 0, none⟩ v0).setCell ⟨r, 1, none⟩ v1).setCell ⟨r, 2, none⟩ v2).setCell ⟨r, 3, none⟩ v3).setCell ⟨r, 4, none⟩ v4).setCell ⟨r, 5, none⟩ v5).heap[r]? = some (.cells #[v0, v1, v2, v3, v4, v5, b6, b7, b8, b9, b10] t (0, 0)) := set_block (i := 5) h5 v5
  have h7 : (((((((W.setCell ⟨r, 0, none⟩ v0).setCell ⟨r, 1, none⟩ v1).setCell ⟨r, 2, none⟩ v2).setCell ⟨r, 3, none⟩ v3).setCell ⟨r, 4, none⟩ v4).setCell ⟨r, 5, none⟩ v5).setCell ⟨r, 6, none⟩ v6).heap[r]? = some (.cells #[v0, v1, v2, v3, v4, v5, v6, b7, b8, b9, b10] t (0, 0)) := set_block (i := 6) h6 v6
  have h8 : ((((((((W.setCell ⟨r, 0, none⟩ v0).setCell ⟨r, 1, none⟩ v1).setCell ⟨r, 2, none⟩ v2).setCell ⟨r, 3, none⟩ v3).setCell ⟨r, 4, none⟩ v4).setCell ⟨r, 5, none⟩ v5).setCell ⟨r, 6, none⟩ v6).setCell ⟨r, 7, none⟩ v7).heap[r]? = some (.cells #[v0, v1, v2, v3, v4, v5, v6, v7, b8, b9, b10] t (0, 0)) := set_block (i := 7) h7 v7
  have h9 : (((((((((W.setCell ⟨r, 0, none⟩ v0).setCell ⟨r, 1, none⟩ v1).setCell ⟨r, 2, none⟩ v2).setCell ⟨r, 3, none⟩ v3).setCell ⟨r, 4, none⟩ v4).setCell ⟨r, 5, none⟩ v5).setCell ⟨r, 6, none⟩ v6).setCell ⟨r, 7, none⟩ v7).setCell ⟨r, 8, none⟩ v8).heap[r]? = some (.cells #[v0, v1, v2, v3, v4, v5, v6, v7, v8, b9, b10] t (0, 0)) := set_block (i := 8) h8 v8
  have h10 : ((((((((((W.setCell ⟨r, 0, none⟩ v0).setCell ⟨r, 1, none⟩ v1).setCell ⟨r, 2, none⟩ v2).setCell ⟨r, 3, none⟩ v3).setCell ⟨r, 4, none⟩ v4).setCell ⟨r, 5, none⟩ v5).setCell ⟨r, 6, none⟩ v6).setCell ⟨r, 7, none⟩ v7).setCell ⟨r, 8, none⟩ v8).setCell ⟨r, 9, none⟩ v9).heap[r]? = some (.cells #[v0, v1, v2, v3, v4, v5, v6, v7, v8, v9, b10] t (0, 0)) := set_block (i := 9) h9 v9
  have h11 : (((((((((((W.setCell ⟨r, 0, none⟩ v0).setCell ⟨r, 1, none⟩ v1).setCell ⟨r, 2, none⟩ v2).setCell ⟨r, 3, none⟩ v3).setCell ⟨r, 4, none⟩ v4).setCell ⟨r, 5, none⟩ v5).setCell ⟨r, 6, none⟩ v6).setCell ⟨r, 7, none⟩ v7).setCell ⟨r, 8, none⟩ v8).setCell ⟨r, 9, none⟩ v9).setCell ⟨r, 10, none⟩ v10).heap[r]? = some (.cells #[v0, v1, v2, v3, v4, v5, v6, v7, v8, v9, v10] t (0, 0)) := set_block (i := 10) h10 v10
  exact ⟨h11, ((((((((((((Kept.refl (fun q => q = r) W).setCell (p := ⟨r, 0, none⟩) (fun _ => rfl) v0).setCell (p := ⟨r, 1, none⟩) (fun _ => rfl) v1).setCell (p := ⟨r, 2, none⟩) (fun _ => rfl) v2).setCell (p := ⟨r, 3, none⟩) (fun _ => rfl) v3).setCell (p := ⟨r, 4, none⟩) (fun _ => rfl) v4).setCell (p := ⟨r, 5, none⟩) (fun _ => rfl) v5).setCell (p := ⟨r, 6, none⟩) (fun _ => rfl) v6).setCell (p := ⟨r, 7, none⟩) (fun _ => rfl) v7).setCell (p := ⟨r, 8, none⟩) (fun _ => rfl) v8).setCell (p := ⟨r, 9, none⟩) (fun _ => rfl) v9).setCell (p := ⟨r, 10, none⟩) (fun _ => rfl) v10)⟩

section
variable {w w' : World} {r : Nat} {R : Rt} {D : Dq} {n : Nat}

set_option maxRecDepth 100000 in
set_option maxHeartbeats 12800000 in
theorem hand_r (h : RdT w r R D) (hW : WD n D) (hn : n ≤ 90000) (hT : TOK D) (nm : ByteArray) (hs : nm.size ≤ maxLen) (ao : Option Addr) (cap : Nat) (ys : List Int) (hsl : Sn w (.slice ao ys.length cap) ys) (hy : ys.length ≤ 1000000) :
    Calls Tryz.prog 67 #[.pointer (some ⟨r, 0, none⟩), .string nm, .slice ao ys.length cap] w fun e w' => e = .returned (.int .i64 (handP D nm ys).1) ∧ ∃ R', RGoes r w R D w' R' (handP D nm ys).2 := by
  have H := hid h
  cases hk : nmOK nm
  · have hp : handP D nm ys = (5, D) := by unfold handP; rw [if_pos hk]
    rw [hp]
    have HI := hid (fun W => hk ▸ risName_any nm W hs)
    clear hk hp h hsl
    go_enter Tryz.func67, Tryz.ntmps67
    go_wp2_with (
      go_at_call 108
      refine (HI.out _).mono ?_
      rintro e w1 ⟨rfl, e1⟩
      rw [e1]
      clear e1 w1)
    go_ret
    exact ⟨rfl, R, RGoes.still H.out (Below.refl _ _)⟩
  · have HI := hid (fun W => hk ▸ risName_any nm W hs)
    obtain ⟨F2, hF2⟩ : ∃ F2, F2 = liveF (delA nm D.names) D.files := ⟨_, rfl⟩
    have hp : handP D nm ys = (if D.limit ≤ (F2.length : Int) then (9, D) else if D.room - ((F2.map Fi.peak).sum : Nat) < (ys.length : Int) then (8, D) else (0, settleD (setA nm (D.made + 1) (delA nm D.names)) (addD ys D))) := by
      unfold handP
      rw [if_neg (by rw [hk]; decide), hF2]
    have hWs : WD n (settleD (delA nm D.names) D) := hW.settle (hW.nam.del nm)
    have hne2 : ∀ f ∈ F2, f.no ≠ D.made + 1 := fun f hf => by
      rw [hF2] at hf
      have := (hW.rng f (mem_liveF.1 hf).1).2
      omega
    have hfin : settleD (setA nm (D.made + 1) (delA nm D.names)) (addD ys D) = { D with safeN := setA nm (D.made + 1) (delA nm D.names), turns := [], made := D.made + 1, files := F2 ++ [⟨D.made + 1, ys, []⟩] } := by
      have h1 := hand_files hW nm ys
      rw [← hF2] at h1
      unfold settleD at h1 ⊢
      dsimp only at h1 ⊢
      rw [h1]
      rfl
    rw [hfin] at hp
    obtain ⟨res, hres⟩ : ∃ res, res = handP D nm ys := ⟨_, rfl⟩
    rw [← hres] at hp ⊢
    obtain ⟨Y, hY⟩ : ∃ Y : Nat, Y = ys.length := ⟨_, rfl⟩
    rw [← hY] at hp hy ⊢
    have HY := hid hY
    have HSN := hid hsl
    have hroom := hW.room
    have hlim := hW.lim
    have hmade := hW.made
    have hfl : D.files.length ≤ 1000 := by have h1 := hW.cnt; have h2 := hW.lim; omega
    obtain ⟨al, cl, hlv⟩ := own_shape h.lis
    obtain ⟨an, cn, hnv, -, -⟩ := h.nms.shape
    obtain ⟨at', ct, htv⟩ := own_shape h.tur
    obtain ⟨as', cs, hsv, -, -⟩ := h.fs.shape
    obtain ⟨ar, cr, hrv, -, -⟩ := h.fr.shape
    obtain ⟨c0, c1, c2, c3, c4, c5, c6, c7, c8, c9, c10⟩ := h.cells
    rw [hlv] at c3
    rw [hnv] at c4
    rw [htv] at c5
    rw [hsv] at c6
    rw [hrv] at c7
    have HSH := hid (And.intro hlv (And.intro hnv (And.intro htv (And.intro hsv hrv))))
    have HRES := hid hp
    have HWD := hid (And.intro hW hWs)
    have HNE := hid hne2
    have HF2 := hid hF2
    have hnl : (rnm R.sn D.turns D.turns.length).length ≤ 512 := h.nlen hW _
    have HNN := hid (h.ns.now (D := D))
    clear hp hres hY hk hfin hsl hlv hnv htv hsv hrv h hW hWs hne2 hF2
    go_enter Tryz.func67, Tryz.ntmps67
    go_upto_region 6 with (
      go_at_call 108
      refine (HI.out _).mono ?_
      rintro e w1 ⟨rfl, e1⟩
      rw [e1]
      clear e1 w1)
    refine cutG (fun W => RdT W w.heap.size R D ∧ RdT W r R D ∧ Below w.heap.size w W) (by
      have hd := hp_new w (.cells #[.int .i64 D.room, .int .i64 D.limit, .int .i64 D.made, R.lv, R.nv, R.tv, R.sv, R.rv, .int .i64 D.st, .int .i64 D.rd, .bool D.off] 58)
      have hb := bel_al w (.cells #[.int .i64 D.room, .int .i64 D.limit, .int .i64 D.made, R.lv, R.nv, R.tv, R.sv, R.rv, .int .i64 D.st, .int .i64 D.rd, .bool D.off] 58)
      have h1 := H.out.move hb (Nat.le_refl _) hd
      have h2 := H.out.below hb
      obtain ⟨e1, e2, e3, e4, e5⟩ := HSH.out
      rw [e1, e2, e3, e4, e5] at h1 h2 hb
      exact ⟨h1, h2, hb⟩) ?_
    clear c0 c1 c2 c3 c4 c5 c6 c7 c8 c9 c10
    rintro W5 ⟨hx5, hr5, hb5⟩
    obtain ⟨x, hx⟩ : ∃ x, x = w.heap.size := ⟨_, rfl⟩
    rw [← hx] at hx5 ⊢
    have HX := hid (show w.heap.size ≤ x by omega)
    have H5 := hid (And.intro hx5 (And.intro hr5 hb5))
    have HNW := hid (now_r hr5 HWD.out.1 (by omega) hT)
    have hfz5 := hx5.free
    clear hx5 hr5 hb5 hx
    go_upto_region 8 with (first
      | (go_at_call 100
         refine HNW.out.mono ?_
         rintro e w6 ⟨v6, rfl, hl6, -, hb6⟩
         obtain ⟨a6, cp6, rfl, -, -⟩ := hl6.shape
         have H6 := hid (And.intro hl6 hb6)
         clear hl6 hb6)
      | (go_at_call 115
         refine (without_any _ _ nm w6 H6.out.1 (by omega)).mono ?_
         rintro e w7 ⟨v7, rfl, hl7, hb7⟩
         obtain ⟨a7, cp7, rfl⟩ := own_shape hl7
         have hb57 := bel_on H6.out.2 hb7
         have hx7 := H5.out.1.below hb57
         obtain ⟨-, -, -, -, d4, d5, -⟩ := hx7.cells
         have hfz7 := hx7.free
         obtain ⟨an7, cn7, hnv7, -, -⟩ := hx7.nms.shape
         obtain ⟨at7, ct7, htv7⟩ := own_shape hx7.tur
         rw [hnv7] at d4
         rw [htv7] at d5
         have H7 := hid (And.intro hl7 (And.intro hb57 hx7.disk))
         have HQ7 := hid (show ∀ q, (Value.slice a7 (delA nm (rnm R.sn D.turns D.turns.length)).length cp7).ownBlock = some q → W5.heap.size ≤ q ∧ q < w7.heap.size from fun q e => ⟨Nat.le_trans H6.out.2.size (hl7.lt q e).1, (hl7.lt q e).2⟩)
         clear hl7 hb7 hb57 hx7 hnv7 htv7))
    refine cutG (fun W => ∃ R1, Hs w W x R R1 { D with safeN := delA nm D.names, turns := [] } ∧ R1.sn = delA nm (rnm R.sn D.turns D.turns.length)) (by
      have hk8 : Kept (fun q => q = x) w7 ((w7.setCell ⟨x, 4, none⟩ (.slice a7 (delA nm (rnm R.sn D.turns D.turns.length)).length cp7)).setCell ⟨x, 5, none⟩ (.slice none 0 0)) := ((Kept.refl (fun q => q = x) w7).setCell (p := ⟨x, 4, none⟩) (fun _ => rfl) _).setCell (p := ⟨x, 5, none⟩) (fun _ => rfl) _
      obtain ⟨R1, g1, s1, s2, s3, s4, s5⟩ := H5.out.1.setN H7.out.2.1 H7.out.1.nl ⟨delA_perm HNN.out.p, delA_asc HNN.out.a⟩ (fun q e => .inr (HQ7.out q e)) hk8 (set_block (i := 5) (set_block (i := 4) H7.out.2.2 (.slice a7 (delA nm (rnm R.sn D.turns D.turns.length)).length cp7)) (.slice none 0 0))
      refine ⟨R1, ⟨g1.rd, ?_, ?_, s3⟩, s1⟩
      · exact (bel_on H5.out.2.2 H7.out.2.1).trans (hk8.below (bel_on H5.out.2.2 H7.out.2.1).size (fun k hk e => by have := HX.out; omega))
      · intro k e
        rcases g1.ft k e with e | e
        · exact .inl e
        · exact .inr (Nat.le_trans H5.out.2.2.size e)) ?_
    clear d4 d5 hfz5 hfz7 H7 HQ7 H6 HNW
    rintro W8 ⟨R1, hs8, hsn8⟩
    have HFO := hid (forget_r hs8.rd rfl (by rw [hsn8]; have h1 : (delA nm (rnm R.sn D.turns D.turns.length)).length ≤ (rnm R.sn D.turns D.turns.length).length := List.length_filter_le _ _; omega) hfl)
    have HLF := hid (show liveF R1.sn D.files = F2 by rw [hsn8, HF2.out]; exact liveF_perm' (delA_perm HNN.out.p) _)
    have H8 := hid (And.intro hs8 hsn8)
    clear hs8 hsn8
    go_upto_region 9 with (
      go_at_call 107
      refine HFO.out.mono ?_
      rintro e w9 ⟨rfl, ⟨R2, g9, s9, sm9⟩, hk9⟩
      have hs9 := H8.out.1.goes HX.out g9 hk9 (sm9.2.1.trans H8.out.1.tv)
      have H9 := hid (And.intro (show Hs w w9 x R R2 { D with safeN := delA nm D.names, turns := [], files := F2 } from HLF.out ▸ hs9) (s9.trans H8.out.2))
      clear g9 s9 sm9 hk9 hs9)
    obtain ⟨-, c1, -, c3, -⟩ := H9.out.1.rd.cells
    obtain ⟨al9, cl9, hlv9⟩ := own_shape H9.out.1.rd.lis
    rw [hlv9] at c3
    replace c1 := (show w9.cell? ⟨x, 1, none⟩ = some (.int .i64 D.limit) from c1)
    replace c3 := (show w9.cell? ⟨x, 3, none⟩ = some (.slice al9 F2.length cl9) from c3)
    have hF2l : F2.length ≤ 1000 := by
      have h1 : F2.length ≤ D.files.length := by rw [HF2.out]; exact List.length_filter_le _ _
      omega
    have HLV9 := hid (show R2.lv = .slice al9 F2.length cl9 from hlv9)
    clear HFO H8 HLF hlv9
    by_cases hq9 : D.limit ≤ (F2.length : Int)
    · replace HRES := hid (by have h1 := HRES.out; rw [if_pos hq9] at h1; exact h1)
      go_wp2
      go_ret
      rw [HRES.out]
      exact ⟨rfl, R, RGoes.still H.out H9.out.1.bl⟩
    · replace HRES := hid (by have h1 := HRES.out; rw [if_neg hq9] at h1; exact h1)
      have hD2 : WD n { D with safeN := delA nm D.names, turns := [], files := F2 } := by
        have h1 := HWD.out.2
        unfold settleD at h1
        rw [← HF2.out] at h1
        exact h1
      have HHD := hid (held_r H9.out.1.rd hD2 (by omega))
      have hT2 : (F2.map Fi.peak).sum ≤ 4194304 := by have h1 : (((F2.map Fi.peak).sum : Nat) : Int) ≤ D.room := hD2.hld; omega
      have HHD2 := hid (show Calls Tryz.prog 43 #[.pointer (some ⟨x, 0, none⟩)] w9 fun e w' => e = .returned (.tuple #[.int .i64 ((F2.map Fi.peak).sum : Nat), .int .i64 F2.length]) ∧ Below w9.heap.size w9 w' from HHD.out)
      obtain ⟨T, hT3⟩ : ∃ T : Nat, T = (F2.map Fi.peak).sum := ⟨_, rfl⟩
      rw [← hT3] at hT2 HHD2 HRES
      clear HHD hD2 hT3
      go_upto_region 12 with (
        go_at_call 43
        refine HHD2.out.mono ?_
        rintro e w10 ⟨rfl, hb10⟩
        have H10 := hid (H9.out.1.below hb10)
        clear hb10)
      clear c1 c3
      obtain ⟨c0, c1, c2, c3, -⟩ := H10.out.rd.cells
      have hfz := H10.out.rd.free
      rw [HLV9.out] at c3
      replace c0 := (show w10.cell? ⟨x, 0, none⟩ = some (.int .i64 D.room) from c0)
      replace c2 := (show w10.cell? ⟨x, 2, none⟩ = some (.int .i64 D.made) from c2)
      by_cases hq8 : D.room - (T : Int) < (Y : Int)
      · replace HRES := hid (by have h1 := HRES.out; rw [if_pos hq8] at h1; exact h1)
        by_cases hq7 : D.room < (Y : Int)
        · clear hq8
          go_wp2
          go_ret
          rw [HRES.out]
          exact ⟨rfl, R, RGoes.still H.out H10.out.bl⟩
        · have hq6 : D.room < (T : Int) + (Y : Int) := by omega
          clear hq8
          go_wp2
          go_ret
          rw [HRES.out]
          exact ⟨rfl, R, RGoes.still H.out H10.out.bl⟩
      · replace HRES := hid (by have h1 := HRES.out; rw [if_neg hq8] at h1; exact h1)
        have hq7 : ¬ D.room < (Y : Int) := by omega
        have hq6 : ¬ D.room < (T : Int) + (Y : Int) := by omega
        clear hq8
        go_upto_region 16 with fail
        refine cutG (fun W => Hs w W x R R2 { D with safeN := delA nm D.names, turns := [], files := F2, made := D.made + 1 }) (by
          have hk11 : Kept (fun q => q = x) w10 (w10.setCell ⟨x, 2, none⟩ (.int .i64 (D.made + 1))) := (Kept.refl (fun q => q = x) w10).setCell (p := ⟨x, 2, none⟩) (fun _ => rfl) _
          exact ⟨H10.out.rd.head hk11 H10.out.rd.only (set_block (i := 2) H10.out.rd.disk _) rfl rfl rfl rfl rfl, H10.out.bl.trans (hk11.below H10.out.bl.size (fun k hk e => by have := HX.out; omega)), H10.out.ft, H10.out.tv⟩) ?_
        intro W11 hs11
        have H11 := hid hs11
        clear c0 c1 c2 c3 hfz hs11
        obtain ⟨-, -, c2, c3, -⟩ := H11.out.rd.cells
        rw [HLV9.out] at c3
        replace c2 := (show W11.cell? ⟨x, 2, none⟩ = some (.int .i64 (D.made + 1)) from c2)
        have HFAT := hid (show Rf W11 3 (.slice al9 F2.length cl9) F2.length (F2.flatMap (rfcs R2)) by have h1 := H11.out.rd.fat; rw [HLV9.out] at h1; exact h1)
        go_upto_region 17 with (
          at_builtin
          refine wpList_append_rf _ rfl (.tmp 54) (.tmp 56) 54 141 _ 3 56 rfl Tryz.underlying54 Tryz.info141 rfl (by omega) W11.heap.size (.slice none 0 0) 0 [] rfl (owns_nil _ _ _ _) (.slice al9 F2.length cl9) F2.length (F2.flatMap (rfcs R2)) rfl HFAT.out (by omega) (by unfold maxLen; omega) (Nat.le_refl _) ?_
          intro a12 c12 w12 hown hgr hob
          have H12 := hid (show w12.ownsRow W11.heap.size 141 3 (.slice a12 F2.length c12) F2.length (F2.flatMap (rfcs R2)) ∧ Below W11.heap.size W11 w12 by have h1 := And.intro hown.out (grow_ab0 (Below.refl W11.heap.size W11) (Nat.le_refl _) (owns_nil W11 W11.heap.size 141 3) hgr.out); simp only [Nat.zero_add, List.nil_append] at h1; exact h1)
          clear hown hgr hob)
        try simp only [Nat.zero_add]
        clear c2 c3
        have hr12 := H11.out.rd.below H12.out.2
        obtain ⟨-, -, c2, c3, -⟩ := hr12.cells
        rw [HLV9.out] at c3
        replace c2 := (show w12.cell? ⟨x, 2, none⟩ = some (.int .i64 (D.made + 1)) from c2)
        have hfz := hr12.free
        have hxl : x < w12.heap.size := World.block_lt_of_cell? _ _ c2
        have hbd : Below w12.heap.size w12 w12.drew := ⟨rfl, rfl, rfl, Nat.le_refl _, fun _ _ => rfl⟩
        have hcp := copied_r ao cap ys w12.drew ((HSN.out.below (bel_on H11.out.bl H12.out.2)).below hbd) (by rw [← HY.out]; omega)
        rw [← HY.out] at hcp
        have HCP := hid (And.intro hcp hbd)
        have HC12 := hid (fun (W : World) (hb : Below W11.heap.size W11 W) => And.intro (show W.cell? ⟨x, 2, none⟩ = some (.int .i64 (D.made + 1)) from (H11.out.rd.below hb).cells.2.2.1) (And.intro (show W.cell? ⟨x, 3, none⟩ = some (.slice al9 F2.length cl9) by have h1 := (H11.out.rd.below hb).cells.2.2.2.1; rw [HLV9.out] at h1; exact h1) (And.intro (H11.out.rd.below hb).free (H11.out.rd.below hb).disk)))
        clear hcp hbd hr12
        go_cut [7] from 11 (fun v7 wc => v7 = .pointer (some ⟨x, 0, none⟩) ∧ Hid (∃ R3, Hs w wc x R R3 { D with safeN := delA nm D.names, turns := [], made := D.made + 1, files := F2 ++ [⟨D.made + 1, ys, []⟩] } ∧ R3.sn = delA nm (rnm R.sn D.turns D.turns.length)))
        case first =>
          go_region_law
            (first
              | (refine step_append_rf _ (by rfl) _ _ 54 141 _ 3 56 (by rfl) Tryz.underlying54 Tryz.info141 rfl (by omega) W11.heap.size (.slice a12 F2.length c12) F2.length (F2.flatMap (rfcs R2)) (by rfl) (HP5.out.1.alloc _) (.slice (some ⟨w5.heap.size, 0, none⟩) 1 1) 1 [.int .i64 (D.made + 1), .slice a5 Y c5, .slice none 0 0] (by rfl) (rf_new w5 141 #[.int .i64 (D.made + 1), .slice a5 Y c5, .slice none 0 0] 3 rfl (ones3 _ _ _ rfl rfl rfl)) (by omega) (by unfold maxLen; omega) HP5.out.2.2.2 ?_; intro a9 c9 w9' hown hgr hob; have hb9 := grow_ab HP5.out.2.2.1 HP5.out.2.2.1.size HP5.out.1 hgr.out; have hk9 : Kept (fun q => (Value.slice a12 F2.length c12).ownBlock = some q) w5 w9' := ((Kept.refl _ w5).alloc _).grown hgr.out (fun _ _ e => e); obtain ⟨s1, s2, s3, s4⟩ := HC12.out w9' hb9; have HRR := hid (And.intro hown.out (And.intro (ownsRow_kept HP5.out.2.1 hk9 (fun q e e2 => owns_ne HP5.out.2.1 HP5.out.1 (by decide) q e e2)) (And.intro hb9 s4))); clear hown hgr hob hk9 hb9 s4)
              | (go_simp; go_wp2_with (go_at_call 105; refine HCP.out.1.mono ?_; rintro e w5 ⟨v5, rfl, ho5, hb5⟩; obtain ⟨a5, c5, rfl⟩ := own_shape ho5; have hb45 := bel_on HCP.out.2 hb5; have hb15 := bel_on H12.out.2 hb45; obtain ⟨t2, t3, t4, -⟩ := HC12.out w5 hb15; have hxl5 : x < w5.heap.size := World.block_lt_of_cell? _ _ t2; have HP5 := hid (And.intro (ownsRow_kept H12.out.1 (Kept.ofBelow hb45) (fun _ _ e => e)) (And.intro (owns_mono ho5 H12.out.2.size) (And.intro hb15 (show W11.heap.size ≤ (w5.alloc (.cells #[.int .i64 (D.made + 1), .slice a5 Y c5, .slice none 0 0] 141)).heap.size by have := hb15.size; simp; omega)))); clear ho5 hb5 hb45 hb15)))
          all_goals
            go_wp2_with fail
            go_meet
            case rel =>
              refine ⟨rfl, hid ?_⟩
              obtain ⟨h1, h2, h3, h4⟩ := HRR.out
              obtain ⟨R3, g3, q1, q2, q3⟩ := H11.out.rd.addC (D.made + 1) HNE.out h3 h1 (by rw [← HY.out]; exact h2) ((Kept.refl (fun q => q = x) w9').setCell (p := ⟨x, 3, none⟩) (fun _ => rfl) _) (set_block (i := 3) h4 _)
              exact ⟨R3, H11.out.goes HX.out g3 q3 (q2.2.1.trans H11.out.tv), q1.trans H9.out.2⟩
        case rest =>
          obtain ⟨rfl, H14⟩ := hcut
          rename World => W14
          clear c2 c3 hfz hxl HCP HC12 H12 H11 HFAT
          obtain ⟨R3, hs14, hsn14⟩ := H14.out
          obtain ⟨-, -, c2, -, c4, c5, -⟩ := hs14.rd.cells
          obtain ⟨an14, cn14, hnv14, -, -⟩ := hs14.rd.nms.shape
          rw [hnv14] at c4
          rw [hs14.tv] at c5
          replace c2 := (show W14.cell? ⟨x, 2, none⟩ = some (.int .i64 (D.made + 1)) from c2)
          have hfz := hs14.rd.free
          have hwi := with_any R3.nv R3.sn nm (D.made + 1) W14 hs14.rd.nms (by rw [hsn14]; have h1 : (delA nm (rnm R.sn D.turns D.turns.length)).length ≤ (rnm R.sn D.turns D.turns.length).length := List.length_filter_le _ _; omega)
          rw [hnv14] at hwi
          have HWI := hid hwi
          have HS14 := hid hs14
          clear hwi hs14 hsn14 hnv14
          go_upto_region 19 with (
            go_at_call 116
            refine HWI.out.mono ?_
            rintro e w15 ⟨v15, rfl, hl15, hb15⟩
            obtain ⟨a15, cp15, rfl⟩ := own_shape hl15
            have hx15 := HS14.out.rd.below hb15
            obtain ⟨-, -, -, -, d4, -⟩ := hx15.cells
            have hfz15 := hx15.free
            obtain ⟨an15, cn15, hnv15, -, -⟩ := hx15.nms.shape
            rw [hnv15] at d4
            have H15 := hid (And.intro hl15 (And.intro hb15 hx15.disk))
            clear hl15 hb15 hx15 hnv15)
          refine cutG (fun W => ∃ R4, Hs w W x R R4 { D with safeN := setA nm (D.made + 1) (delA nm D.names), turns := [], made := D.made + 1, files := F2 ++ [⟨D.made + 1, ys, []⟩] }) (by
            have hk16 : Kept (fun q => q = x) w15 (w15.setCell ⟨x, 4, none⟩ (.slice a15 (wthA nm (D.made + 1) R3.sn).length cp15)) := (Kept.refl (fun q => q = x) w15).setCell (p := ⟨x, 4, none⟩) (fun _ => rfl) _
            have hd16 := set_block (i := 4) H15.out.2.2 (.slice a15 (wthA nm (D.made + 1) R3.sn).length cp15)
            rw [HS14.out.tv] at hd16
            obtain ⟨R4, g1, s1, s2, s3, s4, s5⟩ := HS14.out.rd.setN H15.out.2.1 H15.out.1.nl ⟨wthA_perm HS14.out.rd.ns.p, wthA_asc HS14.out.rd.ns.a⟩ (fun q e => .inr (H15.out.1.lt q e)) hk16 hd16
            exact ⟨R4, HS14.out.goes HX.out g1 (((Kept.ofBelow H15.out.2.1).mono (S' := fun q => q = x) (fun _ _ e => e.elim)).trans hk16 (fun _ _ e => e)) s3⟩) ?_
          clear c2 c4 c5 d4 hfz hfz15 H15 HWI HS14 H14
          rintro W16 ⟨R4, hs16⟩
          obtain ⟨al16, cl16, hlv⟩ := own_shape hs16.rd.lis
          obtain ⟨an16, cn16, hnv, -, -⟩ := hs16.rd.nms.shape
          obtain ⟨as16, cs16, hsv, -, -⟩ := hs16.rd.fs.shape
          obtain ⟨ar16, cr16, hrv, -, -⟩ := hs16.rd.fr.shape
          obtain ⟨e0, e1, e2, e3, e4, e5, e6, e7, e8, e9, e10⟩ := hs16.rd.cells
          have hrd := H.out.below hs16.bl
          obtain ⟨c0, c1, c2, c3, c4, c5, c6, c7, c8, c9, c10⟩ := hrd.cells
          have hfzr := hrd.free
          rw [hlv] at e3
          rw [hnv] at e4
          rw [hs16.tv] at e5
          rw [hsv] at e6
          rw [hrv] at e7
          have HG := hid (fun (W' : World) (hk : Kept (fun q => q = r) W16 W') (hd : W'.heap[r]? = some (.cells #[.int .i64 D.room, .int .i64 D.limit, .int .i64 (D.made + 1), .slice al16 (F2 ++ [(⟨D.made + 1, ys, []⟩ : Fi)]).length cl16, .slice an16 R4.sn.length cn16, .slice none 0 0, .slice as16 D.fs.length cs16, .slice ar16 D.fr.length cr16, .int .i64 D.st, .int .i64 D.rd, .bool D.off] 58 (0, 0))) => Hs.back H.out hs16 HX.out hk (by rw [hlv, hnv, hs16.tv, hsv, hrv]; exact hd))
          have HRD := hid hrd.disk
          obtain ⟨FL, hFL⟩ : ∃ FL : Nat, FL = (F2 ++ [(⟨D.made + 1, ys, []⟩ : Fi)]).length := ⟨_, rfl⟩
          rw [← hFL] at HG
          replace e3 := (show W16.cell? ⟨x, 3, none⟩ = some (.slice al16 FL cl16) by rw [hFL]; exact e3)
          replace e0 := (show W16.cell? ⟨x, 0, none⟩ = some (.int .i64 D.room) from e0)
          replace e1 := (show W16.cell? ⟨x, 1, none⟩ = some (.int .i64 D.limit) from e1)
          replace e2 := (show W16.cell? ⟨x, 2, none⟩ = some (.int .i64 (D.made + 1)) from e2)
          replace e6 := (show W16.cell? ⟨x, 6, none⟩ = some (.slice as16 D.fs.length cs16) from e6)
          replace e7 := (show W16.cell? ⟨x, 7, none⟩ = some (.slice ar16 D.fr.length cr16) from e7)
          replace e8 := (show W16.cell? ⟨x, 8, none⟩ = some (.int .i64 D.st) from e8)
          replace e9 := (show W16.cell? ⟨x, 9, none⟩ = some (.int .i64 D.rd) from e9)
          replace e10 := (show W16.cell? ⟨x, 10, none⟩ = some (.bool D.off) from e10)
          obtain ⟨SL, hSL⟩ : ∃ SL : Nat, SL = R4.sn.length := ⟨_, rfl⟩
          rw [← hSL] at HG e4
          clear hs16 hrd hlv hnv hsv hrv hFL hSL
          go_wp2
          go_ret
          rw [HRES.out]
          exact ⟨rfl, R4, HG.out _ (set11 HRD.out).2 (set11 HRD.out).1⟩

end

end Go.Proofs.YtlmompdfombgeaaGreat

namespace Go.Proofs.YtlmompdfombgeaaGreat
open Go.RowKit Go.MapKept

section
variable {w w' : World} {r : Nat} {R : Rt} {D : Dq} {n : Nat}

theorem pre2_cases (D : Dq) (nm mn : ByteArray) : (pre1 D nm false 0 = 0 ∧ nmOK mn = true ∧ pre2 D nm mn = 0 ∧ D.off = false ∧ nmOK nm = true) ∨ (pre1 D nm false 0 = 6 ∧ nmOK mn = true ∧ pre2 D nm mn = 6) ∨ ((pre1 D nm false 0 = 0 ∨ pre1 D nm false 0 = 6) ∧ nmOK mn = false ∧ pre2 D nm mn = 5) ∨ (pre1 D nm false 0 ≠ 0 ∧ pre1 D nm false 0 ≠ 6 ∧ pre2 D nm mn = pre1 D nm false 0) := by
  unfold pre1 pre2
  cases D.off
  · cases nmOK nm
    · right; right; right; simp
    · cases nmOK mn
      · cases D.look nm
        · right; right; left; simp
        · right; right; left; simp
      · cases D.look nm
        · right; left; simp
        · left; simp
  · right; right; right; simp

set_option maxRecDepth 100000 in
set_option maxHeartbeats 3200000 in
theorem rename_r (h : RdT w r R D) (hW : WD n D) (hn : n ≤ 90000) (hT : TOK D) (hl : D.fs.length ≤ 300) (nm mn : ByteArray) (hs : nm.size ≤ maxLen) (hs1 : mn.size ≤ maxLen) :
    Calls Tryz.prog 57 #[.pointer (some ⟨r, 0, none⟩), .string nm, .string mn] w fun e w' => e = .returned (.int .i64 (renP D nm mn).1) ∧ ∃ R', RGoes r w R D w' R' (renP D nm mn).2 := by
  have HK := hid (known_r h hW (by omega) hT nm hs)
  have H := hid h
  rcases pre2_cases D nm mn with ⟨q0, q1, q2, q3, q4⟩ | ⟨q0, q1, q2⟩ | ⟨q0, q1, q2⟩ | ⟨q0, q1, q2⟩
  · rw [q0] at HK
    have HI := hid (fun W => q1 ▸ risName_any mn W hs1)
    have HS := hid (fun (W : World) (hb : Below w.heap.size w W) => stroke_r (h.below hb) hW (by omega) hl q3)
    have htl : D.turns.length ≤ 100000 := by have h1 := hW.tur; omega
    by_cases hf : fe (fo D.fs (D.st + 1)) = 0
    · rw [hf] at HS
      by_cases hnm : nm = mn
      · subst hnm
        have hp : renP D nm nm = (0, cntS D) := by simp [renP, strokeP, q2, hf, renK]
        rw [hp]
        clear h hp q0 q1 q2 q3 q4 hf
        go_enter Tryz.func57, Tryz.ntmps57
        go_wp2_with (first
          | (go_at_call 103
             refine HK.out.mono ?_
             rintro e w1 ⟨⟨i, rfl, -⟩, hb1⟩
             have H1 := hid hb1
             clear hb1)
          | (go_at_call 108
             refine (HI.out _).mono ?_
             rintro e w3 ⟨rfl, e3⟩
             rw [e3]
             clear e3 w3)
          | (go_at_call 104
             refine (HS.out _ H1.out).mono ?_
             rintro e w2 ⟨rfl, hr2, hk2⟩
             have H2 := hid (And.intro hr2 hk2)
             clear hr2 hk2))
        go_ret
        exact ⟨rfl, R, (RGoes.still H.out H1.out).trans ⟨H2.out.1, H2.out.2.mono (fun _ _ e => .inl e), fun _ e => .inl e⟩⟩
      · have hp : renP D nm mn = (0, { cntS D with turns := D.turns ++ [(nm, mn, (lo nm D.names).getD 0)] }) := by simp [renP, strokeP, q2, hf, renK, hnm, turnD]; exact ⟨rfl, rfl⟩
        rw [hp]
        have hbn : (nm.toList == mn.toList) = false := by simp; exact fun e => hnm (toList_inj e)
        have HTN := hid (tncs_rename (nmOK_ne q4) (nmOK_ne q1) ((lo nm D.names).getD 0))
        clear h hp q0 q1 q2 q3 q4 hf hnm
        go_enter Tryz.func57, Tryz.ntmps57
        go_upto_region 12 with (first
          | (go_at_call 103
             refine HK.out.mono ?_
             rintro e w1 ⟨⟨i, rfl, -⟩, hb1⟩
             have H1 := hid hb1
             clear hb1)
          | (go_at_call 108
             refine (HI.out _).mono ?_
             rintro e w3 ⟨rfl, e3⟩
             rw [e3]
             clear e3 w3)
          | (go_at_call 104
             refine (HS.out _ H1.out).mono ?_
             rintro e w2 ⟨rfl, hr2, hk2⟩
             have H2 := hid (And.intro hr2 hk2)
             clear hr2 hk2))
        obtain ⟨c0, c1, c2, c3, c4, c5, c6, c7, c8, c9, c10⟩ := H2.out.1.cells
        obtain ⟨at2, ct2, htv⟩ := own_shape H2.out.1.tur
        rw [htv] at c5
        have HTV := hid htv
        clear htv c0 c1 c2 c3 c4 c6 c7 c8 c9 c10
        replace c5 := (show w2.cell? ⟨r, 5, none⟩ = some (.slice at2 D.turns.length ct2) from c5)
        have HOT := hid (show w2.ownsRow 0 146 4 (.slice at2 D.turns.length ct2) D.turns.length (D.turns.flatMap tncs) by have := H2.out.1.tur; rw [HTV.out] at this; exact this)
        go_wp2_with (
          at_builtin
          refine wpList_append_rf _ rfl (.tmp 40) (.tmp 44) 56 146 _ 4 48 rfl Tryz.underlying56 Tryz.info146 rfl (by omega) 0 (.slice at2 D.turns.length ct2) D.turns.length _ rfl (HOT.out.alloc _) (.slice (some ⟨w2.heap.size, 0, none⟩) 1 1) 1 [.int .i64 2, .string nm, .string mn, .int .i64 0] rfl (rf_new w2 146 #[.int .i64 2, .string nm, .string mn, .int .i64 0] 4 rfl (ones4g _ _ _ _)) (by omega) (by unfold maxLen; omega) (Nat.zero_le _) ?_
          intro a9 c9 w9 hown hgr hob
          obtain ⟨s1, s3, hR⟩ := H2.out.1.turned (nm, mn, (lo nm D.names).getD 0) HTV.out (by rw [HTN.out]; exact hown.out) hgr.out hob.out
          have H9 := hid hR
          clear hown hgr hob hR)
        go_ret
        obtain ⟨R9, hg9⟩ := H9.out
        exact ⟨rfl, R9, ((RGoes.still H.out H1.out).trans ⟨H2.out.1, H2.out.2.mono (fun _ _ e => .inl e), fun _ e => .inl e⟩).trans hg9⟩
    · have hp : renP D nm mn = (fe (fo D.fs (D.st + 1)), cntS D) := by simp [renP, strokeP, q2, hf]
      rw [hp]
      have hb0 : (fe (fo D.fs (D.st + 1)) == 0) = false := by simpa using hf
      clear h hp q0 q1 q2 q3 q4 hf
      generalize fe (fo D.fs (D.st + 1)) = er at HS hb0 ⊢
      go_enter Tryz.func57, Tryz.ntmps57
      go_wp2_with (first
        | (go_at_call 103
           refine HK.out.mono ?_
           rintro e w1 ⟨⟨i, rfl, -⟩, hb1⟩
           have H1 := hid hb1
           clear hb1)
        | (go_at_call 108
           refine (HI.out _).mono ?_
           rintro e w3 ⟨rfl, e3⟩
           rw [e3]
           clear e3 w3)
        | (go_at_call 104
           refine (HS.out _ H1.out).mono ?_
           rintro e w2 ⟨rfl, hr2, hk2⟩
           have H2 := hid (And.intro hr2 hk2)
           clear hr2 hk2))
      go_ret
      exact ⟨rfl, R, (RGoes.still H.out H1.out).trans ⟨H2.out.1, H2.out.2.mono (fun _ _ e => .inl e), fun _ e => .inl e⟩⟩
  · rw [q0] at HK
    have HI := hid (fun W => q1 ▸ risName_any mn W hs1)
    have hp : renP D nm mn = (6, D) := by simp [renP, strokeP, q2]
    rw [hp]
    clear h hp q0 q1 q2
    go_enter Tryz.func57, Tryz.ntmps57
    go_wp2_with (first
      | (go_at_call 103
         refine HK.out.mono ?_
         rintro e w1 ⟨⟨i, rfl, -⟩, hb1⟩
         have H1 := hid hb1
         clear hb1)
      | (go_at_call 108
         refine (HI.out _).mono ?_
         rintro e w3 ⟨rfl, e3⟩
         rw [e3]
         clear e3 w3)
      | (go_at_call 104
         refine (HS.out _ H1.out).mono ?_
         rintro e w2 ⟨rfl, hr2, hk2⟩
         have H2 := hid (And.intro hr2 hk2)
         clear hr2 hk2))
    go_ret
    exact ⟨rfl, R, RGoes.still H.out H1.out⟩
  · have HI := hid (fun W => q1 ▸ risName_any mn W hs1)
    have hp : renP D nm mn = (5, D) := by simp [renP, strokeP, q2]
    rw [hp]
    rcases q0 with q0 | q0
    all_goals
      rw [q0] at HK
      clear h hp q0 q1 q2
      go_enter Tryz.func57, Tryz.ntmps57
      go_wp2_with (first
        | (go_at_call 103
           refine HK.out.mono ?_
           rintro e w1 ⟨⟨i, rfl, -⟩, hb1⟩
           have H1 := hid hb1
           clear hb1)
        | (go_at_call 108
           refine (HI.out _).mono ?_
           rintro e w3 ⟨rfl, e3⟩
           rw [e3]
           clear e3 w3)
        | (go_at_call 104
           refine (HS.out _ H1.out).mono ?_
           rintro e w2 ⟨rfl, hr2, hk2⟩
           have H2 := hid (And.intro hr2 hk2)
           clear hr2 hk2))
      go_ret
      exact ⟨rfl, R, RGoes.still H.out H1.out⟩
  · have hp : renP D nm mn = (pre1 D nm false 0, D) := by
      rw [← q2] at q0 q1 ⊢
      simp [renP, strokeP, q0]
    rw [hp]
    have hb0 : (pre1 D nm false 0 == 0) = false := by simpa using q0
    have hb6 : (pre1 D nm false 0 == 6) = false := by simpa using q1
    clear h hp q2
    generalize pre1 D nm false 0 = er at HK hb0 hb6 q0 q1 ⊢
    have hx0 : (er != 0) = true := by simp [bne, hb0]
    have hx6 : (er != 6) = true := by simp [bne, hb6]
    go_enter Tryz.func57, Tryz.ntmps57
    go_wp2_with (first
      | (go_at_call 103
         refine HK.out.mono ?_
         rintro e w1 ⟨⟨i, rfl, -⟩, hb1⟩
         have H1 := hid hb1
         clear hb1)
      | (go_at_call 108
         refine (HI.out _).mono ?_
         rintro e w3 ⟨rfl, e3⟩
         rw [e3]
         clear e3 w3)
      | (go_at_call 104
         refine (HS.out _ H1.out).mono ?_
         rintro e w2 ⟨rfl, hr2, hk2⟩
         have H2 := hid (And.intro hr2 hk2)
         clear hr2 hk2))
    go_ret
    exact ⟨rfl, R, RGoes.still H.out H1.out⟩

end

end Go.Proofs.YtlmompdfombgeaaGreat

namespace Go.Proofs.YtlmompdfombgeaaGreat
open Go.RowKit Go.MapKept

theorem NoKinds.below {w w' : World} {k : Value} (h : NoKinds w k) (hk : Below w.heap.size w w') : NoKinds w' k := h.kept (Kept.ofBelow hk) (fun _ _ _ e => e)
theorem KF.below {w w' : World} {k : Value} {fs : List (Int × Int)} (h : KF w k fs) (hk : Below w.heap.size w w') : KF w' k fs := h.kept (Kept.ofBelow hk) (fun _ _ _ _ e => e)

section
variable {w : World} {d : Nat} {off : Bool} {cs : Int} {fs : List (Int × Int)}

end
end Go.Proofs.YtlmompdfombgeaaGreat

namespace Go.Proofs.YtlmompdfombgeaaGreat
open Go.RowKit Go.MapKept

section
variable {w : World} {d : Nat} {off : Bool} {cs : Int} {fs : List (Int × Int)}

end

section
variable {w : World} {r : Nat} {sv rv : Value} {cs : Int} {off : Bool}

theorem RB.below {w' : World} (h : RB w r sv rv cs off) (hk : Below w.heap.size w w') : RB w' r sv rv cs off := hp_below h hk (hp_lt h)
end

end Go.Proofs.YtlmompdfombgeaaGreat
