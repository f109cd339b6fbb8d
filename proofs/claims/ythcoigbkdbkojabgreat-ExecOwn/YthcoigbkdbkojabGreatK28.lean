import Derived.Test.YthcoigbkdbkojabGreatK26
set_option maxRecDepth 100000
namespace Go.Proofs.YthcoigbkdbkojabGreat
open Go.RowKit
open V (hp_new hp_lt hp_below hp_alloc)
abbrev eca (x : ByteArray × Vd) : Array Value := #[.string x.1, .int .i64 x.2.k, .int .i64 x.2.i, .string x.2.t]
structure Ke (W w1 : World) (u : Value) (n : Nat) (xs : List (ByteArray × Vd)) : Prop where
  ow : w1.ownsRow W.heap.size 45 4 u n (xs.flatMap ecs)
  bl : Below W.heap.size W w1
  len : n = xs.length
theorem Ke.on {W w1 w2 : World} {u : Value} {n : Nat} {xs : List (ByteArray × Vd)} (h : Ke W w1 u n xs) (hb : Below w1.heap.size w1 w2) : Ke W w2 u n xs :=
  ⟨ownsRow_kept h.ow (Kept.ofBelow hb) (fun _ _ h => h), below_on h.bl hb, h.len⟩
theorem Ke.step {W w1 w2 : World} {u u2 : Value} {n n2 : Nat} {xs : List (ByteArray × Vd)} {e : ByteArray × Vd} (h : Ke W w1 u n xs) (ho : w2.ownsRow W.heap.size 45 4 u2 n2 (xs.flatMap ecs ++ ecs e)) (hn : n2 = n + 1) (hg : w1.grownBy w2 u.ownBlock) : Ke W w2 u2 n2 (xs ++ [e]) := by
  have hs := h.bl.size
  have K : Kept (fun j => u.ownBlock = some j) w1 w2 := (Kept.refl (fun j => u.ownBlock = some j) w1).grown hg (fun _ _ e => e)
  refine ⟨by simpa using ho, h.bl.trans (K.below hs (fun k hk e => by have := (h.ow.lt k e).1; omega)), by simp [hn, h.len]⟩
theorem Ke.shape {W w1 : World} {u : Value} {n : Nat} {xs : List (ByteArray × Vd)} (h : Ke W w1 u n xs) : ∃ ao cap, u = .slice ao n cap := own_shape h.ow
theorem rf_e (w : World) (x : ByteArray × Vd) : Rf (w.alloc (.cells (eca x) 45)) 4 (.slice (some ⟨w.heap.size, 0, none⟩) 1 1) 1 (ecs x) :=
  rf_new w 45 (eca x) 4 rfl (ones4 _ _ _ _ rfl rfl rfl rfl)
def putE (x : ByteArray × Vd) : List (ByteArray × Vd) → List (ByteArray × Vd)
  | [] => [x]
  | y :: l => if (Op.bytesLess x.1.toList y.1.toList || x.1.toList == y.1.toList) = true then x :: (y :: l).filter (fun z => !(z.1.toList == x.1.toList)) else y :: putE x l
def putR (x : ByteArray × Vd) (dn : Bool) (l : List (ByteArray × Vd)) : List (ByteArray × Vd) := if dn then l.filter (fun z => !(z.1.toList == x.1.toList)) else putE x l
theorem putE_len (x : ByteArray × Vd) : ∀ l, (putE x l).length ≤ l.length + 1
  | [] => Nat.le_refl _
  | y :: l => by
    unfold putE
    split
    · have := List.length_filter_le (fun z : ByteArray × Vd => !(z.1.toList == x.1.toList)) (y :: l)
      simp only [List.length_cons] at this ⊢
      omega
    · have := putE_len x l
      simp; omega
theorem putR_t {x : ByteArray × Vd} {l : List (ByteArray × Vd)} {k : Nat} {y : ByteArray × Vd} (hd : l.drop k = y :: l.drop (k + 1)) (e : (y.1.toList == x.1.toList) = true) : putR x true (l.drop k) = putR x true (l.drop (k + 1)) := by
  unfold putR
  rw [hd]
  simp [e]
theorem putR_f {x : ByteArray × Vd} {l : List (ByteArray × Vd)} {k : Nat} {y : ByteArray × Vd} (hd : l.drop k = y :: l.drop (k + 1)) (e : (y.1.toList == x.1.toList) = false) : putR x true (l.drop k) = y :: putR x true (l.drop (k + 1)) := by
  unfold putR
  rw [hd]
  simp [e]
theorem putR_i {x : ByteArray × Vd} {l : List (ByteArray × Vd)} {k : Nat} {y : ByteArray × Vd} (hd : l.drop k = y :: l.drop (k + 1)) (e : (Op.bytesLess x.1.toList y.1.toList || x.1.toList == y.1.toList) = true) : putR x false (l.drop k) = x :: putR x true (l.drop k) := by
  unfold putR
  rw [hd]
  show putE x (y :: l.drop (k + 1)) = _
  unfold putE
  rw [if_pos e]
  rfl
theorem putR_n {x : ByteArray × Vd} {l : List (ByteArray × Vd)} {k : Nat} {y : ByteArray × Vd} (hd : l.drop k = y :: l.drop (k + 1)) (e : (Op.bytesLess x.1.toList y.1.toList || x.1.toList == y.1.toList) = false) : putR x false (l.drop k) = y :: putR x false (l.drop (k + 1)) := by
  unfold putR
  rw [hd]
  show putE x (y :: l.drop (k + 1)) = _
  conv => lhs; unfold putE
  rw [if_neg (by rw [e]; decide)]
  rfl
set_option maxHeartbeats 8000000 in
theorem put_any (v : Value) (x : ByteArray × Vd) (l : List (ByteArray × Vd)) (w : World) (h : Rf w 4 v l.length (l.flatMap ecs)) (hl : l.length ≤ 1000) (h0 : x.2.k ≠ 0) :
    Calls Tryz.prog 34 #[v, .agg (eca x), .bool false] w fun e w' => ∃ v', e = .returned v' ∧ w'.ownsRow (w.heap.size + 1) 45 4 v' (putE x l).length ((putE x l).flatMap ecs) ∧ Below w.heap.size w w' := by
  obtain ⟨ao, cap, rfl, -, -⟩ := h.shape
  obtain ⟨xk, xv⟩ := x
  obtain ⟨kk, ki, kt⟩ := xv
  dsimp only at h0
  have HR := hid h
  have hb0 : Below w.heap.size w (w.alloc (.cells (eca (xk, ⟨kk, ki, kt⟩)) 45)) := below1 w _
  have HB0 := hid (And.intro hb0 (hp_new w (.cells (eca (xk, ⟨kk, ki, kt⟩)) 45)))
  have h0' : (kk == 0) = false := by simpa using h0
  have HX := hid (show ∀ W, Below (w.heap.size + 1) (w.alloc (.cells (eca (xk, ⟨kk, ki, kt⟩)) 45)) W → W.cell? ⟨w.heap.size, 0, none⟩ = some (.string xk) ∧ W.cell? ⟨w.heap.size, 1, none⟩ = some (.int .i64 kk) ∧ W.cell? ⟨w.heap.size, 2, none⟩ = some (.int .i64 ki) ∧ W.cell? ⟨w.heap.size, 3, none⟩ = some (.string kt) ∧ Below w.heap.size w W from fun W hb => by
    have h1 := blk_of hb HB0.out.2 (Nat.lt_succ_self _)
    refine ⟨?_, ?_, ?_, ?_, HB0.out.1.trans (hb.mono (Nat.le_succ _))⟩ <;> (rw [cell_of_row _ _ _ _ _ _ h1]; rfl))
  have es : (w.alloc (.cells (eca (xk, ⟨kk, ki, kt⟩)) 45)).heap.size = w.heap.size + 1 := by simp
  clear h hb0
  go_enter Tryz.func34, Tryz.ntmps34
  go_wp2_with fail
  go_loopw [7, 8, 9] (fun u dv i wr => ∃ (k n : Nat) (dn : Bool) (out : List (ByteArray × Vd)), i = .int .i64 k ∧ dv = .bool dn ∧ k ≤ l.length ∧ Hid (Ke (w.alloc (.cells (eca (xk, ⟨kk, ki, kt⟩)) 45)) wr u n out ∧ putE (xk, ⟨kk, ki, kt⟩) l = out ++ putR (xk, ⟨kk, ki, kt⟩) dn (l.drop k))) (fun _ _ i _ => l.length - (intOf i).toNat)
  case atStart => exact ⟨0, 0, false, [], rfl, rfl, Nat.zero_le _, hid ⟨⟨World.ownsRow_nil _ _ _ _, Below.refl _ _, rfl⟩, rfl⟩⟩
  case round =>
    obtain ⟨k, n, dn, out, rfl, rfl, hk, HK⟩ := hrel
    obtain ⟨ao2, cap2, eu⟩ := HK.out.1.shape
    subst eu
    have HN := hid (show n ≤ 1001 from by
      have h2 := HK.out.1.len
      have h3 := congrArg List.length HK.out.2
      have h4 := putE_len (xk, ⟨kk, ki, kt⟩) l
      rw [List.length_append] at h3
      omega)
    have hB := HK.out.1.bl
    rw [es] at hB
    obtain ⟨b0, b1, b2, b3, hbw⟩ := HX.out wr hB
    have HBW := hid (And.intro hB hbw)
    clear hB hbw
    by_cases h1 : k < l.length
    · have i1 : (k : Int) < (l.length : Int) := by omega
      obtain ⟨bb, off, cap', e, -, -, hcell⟩ := Rf.elem (f := ecs) (fun _ => rfl) (by omega) HR.out k h1
      injection e with e1 e2 e3
      subst e1 e3
      clear e2
      have hd : l.drop k = l[k] :: l.drop (k + 1) := List.drop_eq_getElem_cons h1
      obtain ⟨y, hy⟩ : ∃ y, y = l[k] := ⟨_, rfl⟩
      rw [← hy] at hcell hd
      clear hy
      obtain ⟨yk, yv⟩ := y
      obtain ⟨ykk, yki, ykt⟩ := yv
      have HY := hid (show ∀ W, Below w.heap.size w W → W.cell? ⟨bb, off + k * 4, none⟩ = some (.string yk) ∧ W.cell? ⟨bb, off + k * 4 + 1, none⟩ = some (.int .i64 ykk) ∧ W.cell? ⟨bb, off + k * 4 + 2, none⟩ = some (.int .i64 yki) ∧ W.cell? ⟨bb, off + k * 4 + 3, none⟩ = some (.string ykt) from fun W hb => by
        have cc : ∀ c u, (ecs (yk, ⟨ykk, yki, ykt⟩))[c]? = some u → W.cell? ⟨bb, off + k * 4 + c, none⟩ = some u := fun c u hu => (hb.cell (World.block_lt_of_cell? _ _ (hcell c u hu))).trans (hcell c u hu)
        exact ⟨cc 0 _ rfl, cc 1 _ rfl, cc 2 _ rfl, cc 3 _ rfl⟩)
      obtain ⟨c0, c1, c2, c3⟩ := HY.out wr HBW.out.2
      have HD := hid hd
      clear hcell hd
      have hsy : (yk.toList == xk.toList) = (xk.toList == yk.toList) := Bool.beq_comm
      cases dn
      · cases hq : (xk.toList == yk.toList)
        · rw [hq] at hsy
          cases hlt : Op.bytesLess xk.toList yk.toList
          · have HT := hid (putR_n (x := (xk, ⟨kk, ki, kt⟩)) HD.out (by show (Op.bytesLess xk.toList yk.toList || xk.toList == yk.toList) = false; rw [hlt, hq]; rfl))
            have K0 := hid (HK.out.1.on (((Below.refl _ wr).drew).drew))
            go_upto_region 6 with fail
            go_region
            go_upto_region 10 with fail
            go_region
            go_wp2_with (
                       at_builtin
                       refine wpList_append_rf ((wr.drew.drew).alloc (.cells (eca (yk, ⟨ykk, yki, ykt⟩)) 45)) rfl (.tmp 47) (.tmp 52) 22 45 _ 4 48 rfl Tryz.underlying22 Tryz.info45 rfl (by omega) _ _ _ _ rfl (K0.out.on (below1 _ _)).ow (.slice (some ⟨(wr.drew.drew).heap.size, 0, none⟩) 1 1) 1 (ecs (yk, ⟨ykk, yki, ykt⟩)) rfl (rf_e (wr.drew.drew) (yk, ⟨ykk, yki, ykt⟩)) (by have := HN.out; omega) (by have := HN.out; unfold maxLen; omega) (K0.out.on (below1 _ _)).bl.size ?_
                       intro a3 q3 w3 ho3 hg3 hat3
                       have K3 := hid ((K0.out.on (below1 _ _)).step ho3.out rfl hg3.out)
                       clear ho3 hg3 hat3)
            go_roundw
            case rel => exact ⟨k + 1, _, false, out ++ [(yk, ⟨ykk, yki, ykt⟩)], by go_num, rfl, by omega, hid ⟨K3.out, by rw [HK.out.2, HT.out]; simp⟩⟩
            case measure => simp [intOf]; omega
          · have HT := hid ((putR_i (x := (xk, ⟨kk, ki, kt⟩)) HD.out (by show (Op.bytesLess xk.toList yk.toList || xk.toList == yk.toList) = true; rw [hlt, hq]; rfl)).trans (congrArg _ (putR_f (x := (xk, ⟨kk, ki, kt⟩)) HD.out hsy)))
            have K0 := hid (HK.out.1.on ((Below.refl _ wr).drew))
            go_upto_region 6 with fail
            go_region
            go_upto_region 10 with (
                       at_builtin
                       refine wpList_append_rf ((wr.drew).alloc (.cells (eca (xk, ⟨kk, ki, kt⟩)) 45)) rfl (.tmp 35) (.tmp 37) 22 45 _ 4 48 rfl Tryz.underlying22 Tryz.info45 rfl (by omega) _ _ _ _ rfl (K0.out.on (below1 _ _)).ow (.slice (some ⟨(wr.drew).heap.size, 0, none⟩) 1 1) 1 (ecs (xk, ⟨kk, ki, kt⟩)) rfl (rf_e (wr.drew) (xk, ⟨kk, ki, kt⟩)) (by have := HN.out; omega) (by have := HN.out; unfold maxLen; omega) (K0.out.on (below1 _ _)).bl.size ?_
                       intro a3 q3 w3 ho3 hg3 hat3
                       have K3 := hid ((K0.out.on (below1 _ _)).step ho3.out rfl hg3.out)
                       clear ho3 hg3 hat3
                       have hB3 := K3.out.bl
                       rw [es] at hB3
                       obtain ⟨d0, d1, d2, d3, hbw3⟩ := HX.out w3 hB3
                       obtain ⟨f0, f1, f2, f3⟩ := HY.out w3 hbw3
                       clear hB3 hbw3)
            go_region
            have K4 := hid (K3.out.on ((Below.refl _ w3).drew))
            go_wp2_with (
                       at_builtin
                       refine wpList_append_rf ((w3.drew).alloc (.cells (eca (yk, ⟨ykk, yki, ykt⟩)) 45)) rfl (.tmp 47) (.tmp 52) 22 45 _ 4 48 rfl Tryz.underlying22 Tryz.info45 rfl (by omega) _ _ _ _ rfl (K4.out.on (below1 _ _)).ow (.slice (some ⟨(w3.drew).heap.size, 0, none⟩) 1 1) 1 (ecs (yk, ⟨ykk, yki, ykt⟩)) rfl (rf_e (w3.drew) (yk, ⟨ykk, yki, ykt⟩)) (by have := HN.out; omega) (by have := HN.out; unfold maxLen; omega) (K4.out.on (below1 _ _)).bl.size ?_
                       intro a5 q5 w5 ho5 hg5 hat5
                       have K5 := hid ((K4.out.on (below1 _ _)).step ho5.out rfl hg5.out)
                       clear ho5 hg5 hat5)
            go_roundw
            case rel => exact ⟨k + 1, _, true, out ++ [(xk, ⟨kk, ki, kt⟩)] ++ [(yk, ⟨ykk, yki, ykt⟩)], by go_num, rfl, by omega, hid ⟨K5.out, by rw [HK.out.2, HT.out]; simp⟩⟩
            case measure => simp [intOf]; omega
        · rw [hq] at hsy
          have HT := hid ((putR_i (x := (xk, ⟨kk, ki, kt⟩)) HD.out (by show (Op.bytesLess xk.toList yk.toList || xk.toList == yk.toList) = true; rw [hq]; simp)).trans (congrArg _ (putR_t (x := (xk, ⟨kk, ki, kt⟩)) HD.out hsy)))
          cases hlt : Op.bytesLess xk.toList yk.toList
          · skip
            have K0 := hid (HK.out.1.on ((Below.refl _ wr).drew))
            go_upto_region 6 with fail
            go_region
            go_upto_region 10 with (
                       at_builtin
                       refine wpList_append_rf ((wr.drew).alloc (.cells (eca (xk, ⟨kk, ki, kt⟩)) 45)) rfl (.tmp 35) (.tmp 37) 22 45 _ 4 48 rfl Tryz.underlying22 Tryz.info45 rfl (by omega) _ _ _ _ rfl (K0.out.on (below1 _ _)).ow (.slice (some ⟨(wr.drew).heap.size, 0, none⟩) 1 1) 1 (ecs (xk, ⟨kk, ki, kt⟩)) rfl (rf_e (wr.drew) (xk, ⟨kk, ki, kt⟩)) (by have := HN.out; omega) (by have := HN.out; unfold maxLen; omega) (K0.out.on (below1 _ _)).bl.size ?_
                       intro a3 q3 w3 ho3 hg3 hat3
                       have K3 := hid ((K0.out.on (below1 _ _)).step ho3.out rfl hg3.out)
                       clear ho3 hg3 hat3
                       have hB3 := K3.out.bl
                       rw [es] at hB3
                       obtain ⟨d0, d1, d2, d3, hbw3⟩ := HX.out w3 hB3
                       obtain ⟨f0, f1, f2, f3⟩ := HY.out w3 hbw3
                       clear hB3 hbw3)
            go_region
            have K4 := hid (K3.out.on ((Below.refl _ w3).drew))
            go_wp2_with fail
            go_roundw
            case rel => exact ⟨k + 1, _, true, out ++ [(xk, ⟨kk, ki, kt⟩)], by go_num, rfl, by omega, hid ⟨K4.out, by rw [HK.out.2, HT.out]; simp⟩⟩
            case measure => simp [intOf]; omega
          · skip
            have K0 := hid (HK.out.1.on ((Below.refl _ wr).drew))
            go_upto_region 6 with fail
            go_region
            go_upto_region 10 with (
                       at_builtin
                       refine wpList_append_rf ((wr.drew).alloc (.cells (eca (xk, ⟨kk, ki, kt⟩)) 45)) rfl (.tmp 35) (.tmp 37) 22 45 _ 4 48 rfl Tryz.underlying22 Tryz.info45 rfl (by omega) _ _ _ _ rfl (K0.out.on (below1 _ _)).ow (.slice (some ⟨(wr.drew).heap.size, 0, none⟩) 1 1) 1 (ecs (xk, ⟨kk, ki, kt⟩)) rfl (rf_e (wr.drew) (xk, ⟨kk, ki, kt⟩)) (by have := HN.out; omega) (by have := HN.out; unfold maxLen; omega) (K0.out.on (below1 _ _)).bl.size ?_
                       intro a3 q3 w3 ho3 hg3 hat3
                       have K3 := hid ((K0.out.on (below1 _ _)).step ho3.out rfl hg3.out)
                       clear ho3 hg3 hat3
                       have hB3 := K3.out.bl
                       rw [es] at hB3
                       obtain ⟨d0, d1, d2, d3, hbw3⟩ := HX.out w3 hB3
                       obtain ⟨f0, f1, f2, f3⟩ := HY.out w3 hbw3
                       clear hB3 hbw3)
            go_region
            have K4 := hid (K3.out.on ((Below.refl _ w3).drew))
            go_wp2_with fail
            go_roundw
            case rel => exact ⟨k + 1, _, true, out ++ [(xk, ⟨kk, ki, kt⟩)], by go_num, rfl, by omega, hid ⟨K4.out, by rw [HK.out.2, HT.out]; simp⟩⟩
            case measure => simp [intOf]; omega
      · cases hq : (xk.toList == yk.toList)
        · rw [hq] at hsy
          have HT := hid (putR_f (x := (xk, ⟨kk, ki, kt⟩)) HD.out hsy)
          have K0 := hid (HK.out.1.on (((Below.refl _ wr).drew).drew))
          go_upto_region 6 with fail
          go_region
          go_upto_region 10 with fail
          go_region
          go_wp2_with (
                     at_builtin
                     refine wpList_append_rf ((wr.drew.drew).alloc (.cells (eca (yk, ⟨ykk, yki, ykt⟩)) 45)) rfl (.tmp 47) (.tmp 52) 22 45 _ 4 48 rfl Tryz.underlying22 Tryz.info45 rfl (by omega) _ _ _ _ rfl (K0.out.on (below1 _ _)).ow (.slice (some ⟨(wr.drew.drew).heap.size, 0, none⟩) 1 1) 1 (ecs (yk, ⟨ykk, yki, ykt⟩)) rfl (rf_e (wr.drew.drew) (yk, ⟨ykk, yki, ykt⟩)) (by have := HN.out; omega) (by have := HN.out; unfold maxLen; omega) (K0.out.on (below1 _ _)).bl.size ?_
                     intro a3 q3 w3 ho3 hg3 hat3
                     have K3 := hid ((K0.out.on (below1 _ _)).step ho3.out rfl hg3.out)
                     clear ho3 hg3 hat3)
          go_roundw
          case rel => exact ⟨k + 1, _, true, out ++ [(yk, ⟨ykk, yki, ykt⟩)], by go_num, rfl, by omega, hid ⟨K3.out, by rw [HK.out.2, HT.out]; simp⟩⟩
          case measure => simp [intOf]; omega
        · rw [hq] at hsy
          have HT := hid (putR_t (x := (xk, ⟨kk, ki, kt⟩)) HD.out hsy)
          have K0 := hid (HK.out.1.on (((Below.refl _ wr).drew).drew))
          go_upto_region 6 with fail
          go_region
          go_upto_region 10 with fail
          go_region
          go_wp2_with fail
          go_roundw
          case rel => exact ⟨k + 1, _, true, out, by go_num, rfl, by omega, hid ⟨K0.out, by rw [HK.out.2, HT.out]⟩⟩
          case measure => simp [intOf]; omega
    · have hk1 : k = l.length := by omega
      have h1' : ¬ (k : Int) < l.length := by omega
      have HE := hid HK.out.2
      rw [hk1, List.drop_length] at HE
      cases dn
      · have HT := hid (show putE (xk, ⟨kk, ki, kt⟩) l = out ++ [(xk, ⟨kk, ki, kt⟩)] from HE.out)
        have K0 := hid HK.out.1
        go_wp2_with (
          at_builtin
          refine wpList_append_rf ((wr).alloc (.cells (eca (xk, ⟨kk, ki, kt⟩)) 45)) rfl (.tmp 65) (.tmp 67) 22 45 _ 4 48 rfl Tryz.underlying22 Tryz.info45 rfl (by omega) _ _ _ _ rfl (K0.out.on (below1 _ _)).ow (.slice (some ⟨(wr).heap.size, 0, none⟩) 1 1) 1 (ecs (xk, ⟨kk, ki, kt⟩)) rfl (rf_e (wr) (xk, ⟨kk, ki, kt⟩)) (by have := HN.out; omega) (by have := HN.out; unfold maxLen; omega) (K0.out.on (below1 _ _)).bl.size ?_
          intro a3 q3 w3 ho3 hg3 hat3
          have K3 := hid ((K0.out.on (below1 _ _)).step ho3.out rfl hg3.out)
          clear ho3 hg3 hat3)
        go_ret
        have h9 := K3.out
        rw [← HT.out] at h9
        refine ⟨_, rfl, ?_, HB0.out.1.trans (h9.bl.mono (by rw [es]; exact Nat.le_succ _))⟩
        have h8 := h9.ow
        rw [es] at h8
        rw [← h9.len]
        exact h8
      · have HT := hid (show putE (xk, ⟨kk, ki, kt⟩) l = out from by rw [HE.out]; simp [putR])
        go_wp2_with fail
        go_ret
        have h9 := HK.out.1
        rw [← HT.out] at h9
        refine ⟨_, rfl, ?_, HB0.out.1.trans (h9.bl.mono (by rw [es]; exact Nat.le_succ _))⟩
        have h8 := h9.ow
        rw [es] at h8
        rw [← h9.len]
        exact h8
end Go.Proofs.YthcoigbkdbkojabGreat
namespace Go.Proofs.YthcoigbkdbkojabGreat
open Go.RowKit
set_option maxHeartbeats 1600000 in
theorem rcheck_any (k i : Int) (s : ByteArray) (w : World) : Calls Tryz.prog 18 #[vl k i s] w fun x w' => x = .returned (.int .i64 (chk k i s)) ∧ Below w.heap.size w w' := by
  have hB0 := hid (below1 w (vo k i s))
  obtain ⟨r, hr⟩ : ∃ r, r = chk k i s := ⟨_, rfl⟩
  rw [← hr]
  have HR := hid hr
  clear hr
  have e0 : emp.toList = [] := emp_toList
  by_cases h1 : k = 1
  · subst h1
    by_cases hs : s = emp
    · subst hs
      go_enter Tryz.func18, Tryz.ntmps18
      go_wp2
      go_ret
      exact ⟨by rw [HR.out]; rfl, hB0.out⟩
    · obtain ⟨q1, q2, q3, q4⟩ := str_ne2 hs
      go_enter Tryz.func18, Tryz.ntmps18
      go_wp2
      go_ret
      exact ⟨by rw [HR.out, show chk 1 i s = 14 by simp [chk, hs]]; rfl, hB0.out⟩
  · have b1 : (k == 1) = false := by simpa using h1
    by_cases h2 : k = 2
    · subst h2
      by_cases hi : i = 0
      · subst hi
        by_cases hg : (256 : Int) < s.size
        · go_enter Tryz.func18, Tryz.ntmps18
          go_wp2
          go_ret
          exact ⟨by rw [HR.out, show chk 2 0 s = 4 by simp [chk]; omega]; rfl, hB0.out⟩
        · go_enter Tryz.func18, Tryz.ntmps18
          go_wp2
          go_ret
          exact ⟨by rw [HR.out, show chk 2 0 s = 0 by simp [chk]; omega]; rfl, hB0.out⟩
      · have bi : (i == 0) = false := by simpa using hi
        go_enter Tryz.func18, Tryz.ntmps18
        go_wp2
        go_ret
        exact ⟨by rw [HR.out, show chk 2 i s = 14 by simp [chk, hi]]; rfl, hB0.out⟩
    · have b2 : (k == 2) = false := by simpa using h2
      by_cases hk : k = 0
      · subst hk
        by_cases hi : i = 0
        · subst hi
          by_cases hs : s = emp
          · subst hs
            go_enter Tryz.func18, Tryz.ntmps18
            go_wp2
            go_ret
            exact ⟨by rw [HR.out]; rfl, hB0.out⟩
          · obtain ⟨q1, q2, q3, q4⟩ := str_ne2 hs
            go_enter Tryz.func18, Tryz.ntmps18
            go_wp2
            go_ret
            exact ⟨by rw [HR.out, show chk 0 0 s = 14 by simp [chk, hs]]; rfl, hB0.out⟩
        · have bi : (i == 0) = false := by simpa using hi
          go_enter Tryz.func18, Tryz.ntmps18
          go_wp2
          go_ret
          exact ⟨by rw [HR.out, show chk 0 i s = 14 by simp [chk, hi]]; rfl, hB0.out⟩
      · by_cases hn : k < 0
        · go_enter Tryz.func18, Tryz.ntmps18
          go_wp2
          go_ret
          exact ⟨by rw [HR.out, show chk k i s = 14 by simp [chk, h1, h2, hk]]; rfl, hB0.out⟩
        · have hp : 2 < k := by omega
          go_enter Tryz.func18, Tryz.ntmps18
          go_wp2
          go_ret
          exact ⟨by rw [HR.out, show chk k i s = 14 by simp [chk, h1, h2, hk]]; rfl, hB0.out⟩
set_option maxHeartbeats 800000 in
theorem riskey_any (s : ByteArray) (w : World) : Calls Tryz.prog 17 #[.string s] w fun e w' => e = .returned (.bool (isKeyB s)) ∧ w' = w := by
  obtain ⟨b, hb⟩ : ∃ b, b = isKeyB s := ⟨_, rfl⟩
  rw [← hb]
  have HB := hid hb
  clear hb
  by_cases h0 : (1 : Int) ≤ s.size
  · by_cases h1 : (s.size : Int) ≤ 64
    · go_enter Tryz.func17, Tryz.ntmps17
      go_wp2
      go_ret
      exact ⟨by rw [HB.out, show isKeyB s = true by unfold isKeyB; simp; omega]; rfl, rfl⟩
    · go_enter Tryz.func17, Tryz.ntmps17
      go_wp2
      go_ret
      exact ⟨by rw [HB.out, show isKeyB s = false by unfold isKeyB; simp; omega]; rfl, rfl⟩
  · go_enter Tryz.func17, Tryz.ntmps17
    go_wp2
    go_ret
    exact ⟨by rw [HB.out, show isKeyB s = false by unfold isKeyB; simp; omega]; rfl, rfl⟩
end Go.Proofs.YthcoigbkdbkojabGreat
namespace Go.Proofs.YthcoigbkdbkojabGreat
open Go.RowKit
open V (hp_new hp_lt hp_below hp_alloc)
theorem cells2f {w : World} {p : Nat} {a b : Value} {t : TypeId} (h : w.heap[p]? = some (.cells #[a, b] t (0, 0))) : w.cell? ⟨p, 0, none⟩ = some a ∧ w.cell? ⟨p, 1, none⟩ = some b ∧ ∀ o, w.frozen? ⟨p, o, none⟩ = false := by
  refine ⟨?_, ?_, fun o => free_of_block h⟩ <;> (rw [cell_of_row w p _ _ _ _ h]; rfl)
theorem set2f {w : World} {r : Nat} {a b : Value} {t : TypeId} (h : w.heap[r]? = some (.cells #[a, b] t (0, 0))) (x y : Value) :
    ((w.setCell ⟨r, 0, none⟩ x).setCell ⟨r, 1, none⟩ y).heap[r]? = some (.cells #[x, y] t (0, 0)) := by
  simp [World.setCell, Array.getElem?_modify, h]
theorem load33 {w : World} {r : Nat} {a b : Value} (hb : w.heap[r]? = some (.cells #[a, b] 26 (0, 0))) : (loadVar 26 ⟨r, 0, none⟩).run Tryz.prog w = .ok (.agg #[a, b]) w := by
  obtain ⟨c0, c1, -⟩ := cells2f hb
  simp [go_sem, c0, c1]
theorem ret33 {fn : Func} {p : Tmp} (h : fn.results = #[.cell p 26]) {tmps : Array Value} {r : Nat} {w : World} {a b : Value} (ht : tmps.getD p undef = .pointer (some ⟨r, 0, none⟩)) (hb : w.heap[r]? = some (.cells #[a, b] 26 (0, 0))) :
    (results fn tmps).run Tryz.prog w = .ok (.agg #[a, b]) w := by
  have ht2 := ht
  simp only [Array.getD_eq_getD_getElem?] at ht2
  simp only [results, h]
  simp [ht2, load33 hb, asAddr]
def getE (key : ByteArray) (l : List (ByteArray × Vd)) : Option Vd := (l.find? (fun z => z.1.toList == key.toList)).map Prod.snd
def GetP (key : ByteArray) (l : List (ByteArray × Vd)) (w : World) (e : Ending) (w' : World) : Prop := ∃ d b, e = .returned (.tuple #[vl d.k d.i d.t, .bool b]) ∧ (∀ d', getE key l = some d' → d = d') ∧ Below w.heap.size w w'
end Go.Proofs.YthcoigbkdbkojabGreat
