import Derived.Test.YthcoigbkdbkojabGreatK28
set_option maxRecDepth 100000
namespace Go.Proofs.YthcoigbkdbkojabGreat
open Go.RowKit
open V (hp_new hp_lt hp_below hp_alloc)
abbrev rmE (k : ByteArray) (l : List (ByteArray × Vd)) : List (ByteArray × Vd) := l.filter (fun z => !(z.1.toList == k.toList))
theorem rm_succ (xk : ByteArray) {l : List (ByteArray × Vd)} {k : Nat} {y : ByteArray × Vd} (h : l[k]? = some y) : rmE xk (l.take (k + 1)) = rmE xk (l.take k) ++ (if (y.1.toList == xk.toList) = true then [] else [y]) := by
  rw [List.take_add_one, h]
  show rmE xk (l.take k ++ [y]) = _
  unfold rmE
  rw [List.filter_append]
  congr 1
  cases e : (y.1.toList == xk.toList) <;> simp [e]
set_option maxHeartbeats 6400000 in
theorem put_zero (v : Value) (xk : ByteArray) (ki : Int) (kt : ByteArray) (l : List (ByteArray × Vd)) (w : World) (h : Rf w 4 v l.length (l.flatMap ecs)) (hl : l.length ≤ 1000) :
    Calls Tryz.prog 34 #[v, .agg (eca (xk, ⟨0, ki, kt⟩)), .bool false] w fun e w' => ∃ v', e = .returned v' ∧ w'.ownsRow (w.heap.size + 1) 45 4 v' (rmE xk l).length ((rmE xk l).flatMap ecs) ∧ Below w.heap.size w w' := by
  obtain ⟨ao, cap, rfl, -, -⟩ := h.shape
  have HR := hid h
  have hb0 : Below w.heap.size w (w.alloc (.cells (eca (xk, ⟨0, ki, kt⟩)) 45)) := below1 w _
  have HB0 := hid (And.intro hb0 (hp_new w (.cells (eca (xk, ⟨0, ki, kt⟩)) 45)))
  have HX := hid (show ∀ W, Below (w.heap.size + 1) (w.alloc (.cells (eca (xk, ⟨0, ki, kt⟩)) 45)) W → W.cell? ⟨w.heap.size, 0, none⟩ = some (.string xk) ∧ W.cell? ⟨w.heap.size, 1, none⟩ = some (.int .i64 0) ∧ W.cell? ⟨w.heap.size, 2, none⟩ = some (.int .i64 ki) ∧ W.cell? ⟨w.heap.size, 3, none⟩ = some (.string kt) ∧ Below w.heap.size w W from fun W hb => by
    have h1 := blk_of hb HB0.out.2 (Nat.lt_succ_self _)
    refine ⟨?_, ?_, ?_, ?_, HB0.out.1.trans (hb.mono (Nat.le_succ _))⟩ <;> (rw [cell_of_row _ _ _ _ _ _ h1]; rfl))
  have es : (w.alloc (.cells (eca (xk, ⟨0, ki, kt⟩)) 45)).heap.size = w.heap.size + 1 := by simp
  clear h hb0
  go_enter Tryz.func34, Tryz.ntmps34
  go_wp2_with fail
  go_loopw [7, 8, 9] (fun u dv i wr => ∃ (k n : Nat) (dn : Bool) (out : List (ByteArray × Vd)), i = .int .i64 k ∧ dv = .bool dn ∧ k ≤ l.length ∧ Hid (Ke (w.alloc (.cells (eca (xk, ⟨0, ki, kt⟩)) 45)) wr u n out ∧ out = rmE xk (l.take k))) (fun _ _ i _ => l.length - (intOf i).toNat)
  case atStart => exact ⟨0, 0, false, [], rfl, rfl, Nat.zero_le _, hid ⟨⟨World.ownsRow_nil _ _ _ _, Below.refl _ _, rfl⟩, rfl⟩⟩
  case round =>
    obtain ⟨k, n, dn, out, rfl, rfl, hk, HK⟩ := hrel
    obtain ⟨ao2, cap2, eu⟩ := HK.out.1.shape
    subst eu
    have HN := hid (show n ≤ 1001 from by
      have h2 := HK.out.1.len
      have h3 := congrArg List.length HK.out.2
      have h4 : (rmE xk (l.take k)).length ≤ (l.take k).length := List.length_filter_le _ _
      have h5 := List.length_take_le k l
      have h6 : (l.take k).length ≤ l.length := by rw [List.length_take]; omega
      omega)
    have hB := HK.out.1.bl
    rw [es] at hB
    obtain ⟨b0, b1, b2, b3, hbw⟩ := HX.out wr hB
    have HBW := hid (And.intro hB hbw)
    clear hB hbw
    by_cases h1 : k < l.length
    · have i1 : (k : Int) < (l.length : Int) := by omega
      obtain ⟨bb, off, cap', e, -, -, hcell⟩ := Rf.elem (f := ecs) (fun _ => rfl) (by omega) HR.out k h1
      injection e with e1 e2 e3
      subst e1 e3
      clear e2
      have hd : l[k]? = some l[k] := List.getElem?_eq_getElem h1
      obtain ⟨y, hy⟩ : ∃ y, y = l[k] := ⟨_, rfl⟩
      rw [← hy] at hcell hd
      clear hy
      obtain ⟨yk, yv⟩ := y
      obtain ⟨ykk, yki, ykt⟩ := yv
      have HY := hid (show ∀ W, Below w.heap.size w W → W.cell? ⟨bb, off + k * 4, none⟩ = some (.string yk) ∧ W.cell? ⟨bb, off + k * 4 + 1, none⟩ = some (.int .i64 ykk) ∧ W.cell? ⟨bb, off + k * 4 + 2, none⟩ = some (.int .i64 yki) ∧ W.cell? ⟨bb, off + k * 4 + 3, none⟩ = some (.string ykt) from fun W hb => by
        have cc : ∀ c u, (ecs (yk, ⟨ykk, yki, ykt⟩))[c]? = some u → W.cell? ⟨bb, off + k * 4 + c, none⟩ = some u := fun c u hu => (hb.cell (World.block_lt_of_cell? _ _ (hcell c u hu))).trans (hcell c u hu)
        exact ⟨cc 0 _ rfl, cc 1 _ rfl, cc 2 _ rfl, cc 3 _ rfl⟩)
      obtain ⟨c0, c1, c2, c3⟩ := HY.out wr HBW.out.2
      have HD := hid (rm_succ xk hd)
      clear hcell hd
      have hsy : (yk.toList == xk.toList) = (xk.toList == yk.toList) := Bool.beq_comm
      cases dn
      · cases hq : (xk.toList == yk.toList)
        · rw [hq] at hsy
          cases hlt : Op.bytesLess xk.toList yk.toList
          · skip
            have K0 := hid (HK.out.1.on (((Below.refl _ wr).drew).drew))
            go_upto_region 6 with fail
            go_region
            go_upto_region 10 with fail
            go_region
            go_wp2_with (
                       at_builtin
                       refine wpList_append_rf ((wr.drew.drew).alloc (.cells (eca (yk, ⟨ykk, yki, ykt⟩)) 45)) rfl (.tmp 47) (.tmp 52) 22 45 _ 4 48 rfl Tryz.underlying22 Tryz.info45 rfl (by omega) _ _ _ _ rfl (K0.out.on (below1 _ _)).ow (.slice (some ⟨(wr.drew.drew).heap.size, 0, none⟩) 1 1) 1 (ecs (yk, ⟨ykk, yki, ykt⟩)) rfl (rf_e (wr.drew.drew) (yk, ⟨ykk, yki, ykt⟩)) (by have := HN.out; omega) (by have := HN.out; unfold maxLen; omega) (K0.out.on (below1 _ _)).bl.size ?_
                       intro a3 q3 w3 ho3 hg3 hat3
                       have K3 := hid ((K0.out.on (below1 _ _)).step ho3.out rfl hg3.out)
                       clear ho3 hg3 hat3)
            go_roundw
            case rel => exact ⟨k + 1, _, false, out ++ [(yk, ⟨ykk, yki, ykt⟩)], by go_num, rfl, by omega, hid ⟨K3.out, by have h5 := HD.out; rw [if_neg (by rw [hsy]; decide)] at h5; rw [h5, HK.out.2]⟩⟩
            case measure => simp [intOf]; omega
          · skip
            have K0 := hid (HK.out.1.on (((Below.refl _ wr).drew).drew))
            go_upto_region 6 with fail
            go_region
            go_upto_region 10 with fail
            go_region
            go_wp2_with (
                       at_builtin
                       refine wpList_append_rf ((wr.drew.drew).alloc (.cells (eca (yk, ⟨ykk, yki, ykt⟩)) 45)) rfl (.tmp 47) (.tmp 52) 22 45 _ 4 48 rfl Tryz.underlying22 Tryz.info45 rfl (by omega) _ _ _ _ rfl (K0.out.on (below1 _ _)).ow (.slice (some ⟨(wr.drew.drew).heap.size, 0, none⟩) 1 1) 1 (ecs (yk, ⟨ykk, yki, ykt⟩)) rfl (rf_e (wr.drew.drew) (yk, ⟨ykk, yki, ykt⟩)) (by have := HN.out; omega) (by have := HN.out; unfold maxLen; omega) (K0.out.on (below1 _ _)).bl.size ?_
                       intro a3 q3 w3 ho3 hg3 hat3
                       have K3 := hid ((K0.out.on (below1 _ _)).step ho3.out rfl hg3.out)
                       clear ho3 hg3 hat3)
            go_roundw
            case rel => exact ⟨k + 1, _, true, out ++ [(yk, ⟨ykk, yki, ykt⟩)], by go_num, rfl, by omega, hid ⟨K3.out, by have h5 := HD.out; rw [if_neg (by rw [hsy]; decide)] at h5; rw [h5, HK.out.2]⟩⟩
            case measure => simp [intOf]; omega
        · rw [hq] at hsy
          cases hlt : Op.bytesLess xk.toList yk.toList
          · skip
            have K0 := hid (HK.out.1.on (((Below.refl _ wr).drew).drew))
            go_upto_region 6 with fail
            go_region
            go_upto_region 10 with fail
            go_region
            go_wp2_with fail
            go_roundw
            case rel => exact ⟨k + 1, _, true, out, by go_num, rfl, by omega, hid ⟨K0.out, by have h5 := HD.out; rw [if_pos hsy, List.append_nil] at h5; rw [h5, HK.out.2]⟩⟩
            case measure => simp [intOf]; omega
          · skip
            have K0 := hid (HK.out.1.on (((Below.refl _ wr).drew).drew))
            go_upto_region 6 with fail
            go_region
            go_upto_region 10 with fail
            go_region
            go_wp2_with fail
            go_roundw
            case rel => exact ⟨k + 1, _, true, out, by go_num, rfl, by omega, hid ⟨K0.out, by have h5 := HD.out; rw [if_pos hsy, List.append_nil] at h5; rw [h5, HK.out.2]⟩⟩
            case measure => simp [intOf]; omega
      · cases hq : (xk.toList == yk.toList)
        · rw [hq] at hsy
          have K0 := hid (HK.out.1.on (((Below.refl _ wr).drew).drew))
          go_upto_region 6 with fail
          go_region
          go_upto_region 10 with fail
          go_region
          go_wp2_with (
                     at_builtin
                     refine wpList_append_rf ((wr.drew.drew).alloc (.cells (eca (yk, ⟨ykk, yki, ykt⟩)) 45)) rfl (.tmp 47) (.tmp 52) 22 45 _ 4 48 rfl Tryz.underlying22 Tryz.info45 rfl (by omega) _ _ _ _ rfl (K0.out.on (below1 _ _)).ow (.slice (some ⟨(wr.drew.drew).heap.size, 0, none⟩) 1 1) 1 (ecs (yk, ⟨ykk, yki, ykt⟩)) rfl (rf_e (wr.drew.drew) (yk, ⟨ykk, yki, ykt⟩)) (by have := HN.out; omega) (by have := HN.out; unfold maxLen; omega) (K0.out.on (below1 _ _)).bl.size ?_
                     intro a3 q3 w3 ho3 hg3 hat3
                     have K3 := hid ((K0.out.on (below1 _ _)).step ho3.out rfl hg3.out)
                     clear ho3 hg3 hat3)
          go_roundw
          case rel => exact ⟨k + 1, _, true, out ++ [(yk, ⟨ykk, yki, ykt⟩)], by go_num, rfl, by omega, hid ⟨K3.out, by have h5 := HD.out; rw [if_neg (by rw [hsy]; decide)] at h5; rw [h5, HK.out.2]⟩⟩
          case measure => simp [intOf]; omega
        · rw [hq] at hsy
          have K0 := hid (HK.out.1.on (((Below.refl _ wr).drew).drew))
          go_upto_region 6 with fail
          go_region
          go_upto_region 10 with fail
          go_region
          go_wp2_with fail
          go_roundw
          case rel => exact ⟨k + 1, _, true, out, by go_num, rfl, by omega, hid ⟨K0.out, by have h5 := HD.out; rw [if_pos hsy, List.append_nil] at h5; rw [h5, HK.out.2]⟩⟩
          case measure => simp [intOf]; omega
    · have hk1 : k = l.length := by omega
      have h1' : ¬ (k : Int) < l.length := by omega
      have HE := hid HK.out.2
      rw [hk1, List.take_length] at HE
      cases dn
      all_goals
        go_wp2_with fail
        go_ret
        have h9 := HK.out.1
        rw [HE.out] at h9
        refine ⟨_, rfl, ?_, HB0.out.1.trans (h9.bl.mono (by rw [es]; exact Nat.le_succ _))⟩
        have h8 := h9.ow
        rw [es] at h8
        rw [← h9.len]
        exact h8
def putG (x : ByteArray × Vd) (l : List (ByteArray × Vd)) : List (ByteArray × Vd) := if x.2.k = 0 then rmE x.1 l else putE x l
theorem putG_len (x : ByteArray × Vd) (l : List (ByteArray × Vd)) : (putG x l).length ≤ l.length + 1 := by
  unfold putG
  split
  · have : (rmE x.1 l).length ≤ l.length := List.length_filter_le _ _
    omega
  · exact putE_len x l
theorem put_all (v : Value) (x : ByteArray × Vd) (l : List (ByteArray × Vd)) (w : World) (h : Rf w 4 v l.length (l.flatMap ecs)) (hl : l.length ≤ 1000) :
    Calls Tryz.prog 34 #[v, .agg (eca x), .bool false] w fun e w' => ∃ v', e = .returned v' ∧ w'.ownsRow (w.heap.size + 1) 45 4 v' (putG x l).length ((putG x l).flatMap ecs) ∧ Below w.heap.size w w' := by
  obtain ⟨xk, kk, ki, kt⟩ := x
  by_cases h0 : kk = 0
  · subst h0
    exact put_zero v xk ki kt l w h hl
  · have e : putG (xk, ⟨kk, ki, kt⟩) l = putE (xk, ⟨kk, ki, kt⟩) l := by unfold putG; exact if_neg h0
    rw [e]
    exact put_any v (xk, ⟨kk, ki, kt⟩) l w h hl h0
set_option maxHeartbeats 3200000 in
theorem rput_all (v : Value) (pa : Option Addr) (pn pc : Nat) (x : ByteArray × Vd) (l : List (ByteArray × Vd)) (w : World) (h : Rf w 4 v l.length (l.flatMap ecs)) (hl : l.length ≤ 1000) :
    Calls Tryz.prog 19 #[.agg #[v, .slice pa pn pc], .agg (eca x)] w fun e w' => ∃ a c, e = .returned (.agg #[.slice a (putG x l).length c, .slice pa pn pc]) ∧ w'.ownsRow (w.heap.size + 3) 45 4 (.slice a (putG x l).length c) (putG x l).length ((putG x l).flatMap ecs) ∧ Below w.heap.size w w' := by
  obtain ⟨ao, cap, rfl, -, -⟩ := h.shape
  obtain ⟨hA, hB, hC, hb0⟩ := three w (.cells #[.slice ao l.length cap, .slice pa pn pc] 26) (.cells (eca x) 45) (.cells #[.slice none 0 0, .slice none 0 0] 26)
  have es : (((w.alloc (.cells #[.slice ao l.length cap, .slice pa pn pc] 26)).alloc (.cells (eca x) 45)).alloc (.cells #[.slice none 0 0, .slice none 0 0] 26)).heap.size = w.heap.size + 3 := by simp
  have HP := hid (put_all (.slice ao l.length cap) x l _ (h.below hb0) hl)
  rw [es] at HP
  have H := hid (And.intro hA (And.intro hC hb0))
  clear h hA hB hC hb0
  obtain ⟨xk, kk, ki, kt⟩ := x
  go_enter Tryz.func19, Tryz.ntmps19
  go_wp2_with (first
    | (go_at_call 34
       refine HP.out.mono ?_
       rintro e w1 ⟨v1, rfl, ho, hb1⟩
       obtain ⟨a1, c1, rfl⟩ := own_shape ho
       have hA1 := blk_of hb1 H.out.1 (by rw [← es]; exact hp_lt H.out.1)
       have hC1 := blk_of hb1 H.out.2.1 (by rw [← es]; exact hp_lt H.out.2.1)
       obtain ⟨f0, f1, f2⟩ := cells2f hA1
       obtain ⟨g0, g1, g2⟩ := cells2f hC1
       have hz1 := hp_lt hA1
       have hz2 := hp_lt hC1
       have H1 := hid (And.intro ho (And.intro (H.out.2.2.trans (hb1.mono (by omega))) (And.intro hA1 hC1)))
       clear ho hb1 hA1 hC1))
  have hne : w.heap.size + 1 + 1 ≠ w.heap.size := by omega
  refine bodyPost_ret (ret33 Tryz.results19 rfl (set2f (V.hp_set H1.out.2.2.2 (p := ⟨w.heap.size, 0, none⟩) hne _) _ _)) rfl ?_
  generalize hn : (putG (xk, ⟨kk, ki, kt⟩) l).length = N at *
  have K : Kept (fun k => k = w.heap.size ∨ k = w.heap.size + 1 + 1) w1 (((w1.setCell ⟨w.heap.size, 0, none⟩ (.slice a1 N c1)).setCell ⟨w.heap.size + 1 + 1, 0, none⟩ (.slice a1 N c1)).setCell ⟨w.heap.size + 1 + 1, 1, none⟩ (.slice pa pn pc)) :=
    (((Kept.refl (fun k => k = w.heap.size ∨ k = w.heap.size + 1 + 1) w1).setCell (p := ⟨w.heap.size, 0, none⟩) (fun _ => .inl rfl) _).setCell (p := ⟨w.heap.size + 1 + 1, 0, none⟩) (fun _ => .inr rfl) _).setCell (p := ⟨w.heap.size + 1 + 1, 1, none⟩) (fun _ => .inr rfl) _
  have ho := ownsRow_kept H1.out.1 K (fun k hk e => by have := (H1.out.1.lt k hk).1; omega)
  exact ⟨a1, c1, rfl, owns_mono ho (by omega), H1.out.2.1.trans (K.below H1.out.2.1.size (fun k hk e => by omega))⟩
def goodE (x : ByteArray × Vd) : Bool := isKeyB x.1 && decide (chk x.2.k x.2.i x.2.t = 0)
def mdG (l : List (ByteArray × Vd)) : List (ByteArray × Vd) := l.foldl (fun s x => if goodE x = true then putG x s else s) []
theorem mdG_succ (l : List (ByteArray × Vd)) (k : Nat) (h : k < l.length) : mdG (l.take (k + 1)) = if goodE l[k] = true then putG l[k] (mdG (l.take k)) else mdG (l.take k) := by
  unfold mdG
  rw [List.take_add_one, List.getElem?_eq_getElem h, List.foldl_append]
  rfl
theorem mdG_len (l : List (ByteArray × Vd)) : ∀ k, (mdG (l.take k)).length ≤ k
  | 0 => by simp [mdG]
  | k + 1 => by
    by_cases h : k < l.length
    · rw [mdG_succ l k h]
      have := putG_len l[k] (mdG (l.take k))
      have := mdG_len l k
      split <;> omega
    · have h1 := mdG_len l k
      rw [List.take_of_length_le (by omega)] at h1 ⊢
      omega
set_option maxHeartbeats 6400000 in
theorem made_own (v : Value) (l : List (ByteArray × Vd)) (w : World) (h : Rf w 4 v l.length (l.flatMap ecs)) (T : List (ByteArray × Vd)) (hT : T = mdG (l.take 400)) :
    Calls Tryz.prog 6 #[v] w fun e w' => ∃ a c, e = .returned (.agg #[.slice a T.length c, .slice none 0 0]) ∧ w'.ownsRow 0 45 4 (.slice a T.length c) T.length (T.flatMap ecs) ∧ Below w.heap.size w w' := by
  obtain ⟨ao, cap, rfl, -, -⟩ := h.shape
  have hA := two1 w (.cells #[.slice none 0 0, .slice none 0 0] 26) (.cells #[.slice none 0 0, .slice none 0 0] 26)
  have hC := two2 w (.cells #[.slice none 0 0, .slice none 0 0] 26) (.cells #[.slice none 0 0, .slice none 0 0] 26)
  have hb0 : Below w.heap.size w ((w.alloc (.cells #[.slice none 0 0, .slice none 0 0] 26)).alloc (.cells #[.slice none 0 0, .slice none 0 0] 26)) := (below1 w _).alloc (by simp) _
  have HR := hid (And.intro h (And.intro hb0 (And.intro hA (And.intro hC hT))))
  clear h hb0 hA hC hT
  go_enter Tryz.func6, Tryz.ntmps6
  go_wp2_with fail
  go_loopw [4] (fun ix wr => ∃ k : Nat, k ≤ l.length ∧ k ≤ 400 ∧ ix = .int .i64 k ∧ Hid (∃ a c, wr.heap[w.heap.size]? = some (.cells #[.slice none 0 0, .slice none 0 0] 26 (0, 0)) ∧ wr.heap[w.heap.size + 1]? = some (.cells #[.slice a (mdG (l.take k)).length c, .slice none 0 0] 26 (0, 0)) ∧ wr.ownsRow (w.heap.size + 2) 45 4 (.slice a (mdG (l.take k)).length c) (mdG (l.take k)).length ((mdG (l.take k)).flatMap ecs) ∧ Below w.heap.size w wr)) (fun ix _ => l.length - (intOf ix).toNat)
  case atStart => exact ⟨0, Nat.zero_le _, by omega, by go_num, hid ⟨none, 0, HR.out.2.2.1, HR.out.2.2.2.1, owns_nil _ _ _ _, HR.out.2.1⟩⟩
  case round =>
    obtain ⟨k, hk, hk4, rfl, HG⟩ := hrel
    obtain ⟨a, c, r0, r1, ro, rb⟩ := HG.out
    obtain ⟨f0, f1, f2⟩ := cells2f r0
    obtain ⟨g0, g1, g2⟩ := cells2f r1
    have hz1 := hp_lt r0
    have hz2 := hp_lt r1
    have HM := hid (mdG_len l k)
    obtain ⟨N, hN⟩ : ∃ N, N = (mdG (l.take k)).length := ⟨_, rfl⟩
    rw [← hN] at g0 r1 ro HM
    have HGG := hid (And.intro r0 (And.intro r1 (And.intro ro (And.intro rb hN))))
    clear r0 r1 ro rb hN HG
    by_cases hlt : k < l.length ∧ k < 400
    · obtain ⟨hlt, hlt4⟩ := hlt
      have i1 : (k : Int) < (l.length : Int) := by omega
      have i2 : (k : Int) < 400 := by omega
      obtain ⟨bb, off, cap', e, -, -, hcell⟩ := Rf.elem (f := ecs) (fun _ => rfl) (by omega) HR.out.1 k hlt
      injection e with e1 e2 e3
      subst e1 e3
      clear e2
      have hsu := mdG_succ l k hlt
      obtain ⟨y, hy⟩ : ∃ y, y = l[k] := ⟨_, rfl⟩
      rw [← hy] at hcell hsu
      clear hy
      obtain ⟨yk, yv⟩ := y
      obtain ⟨ykk, yki, ykt⟩ := yv
      have HY := hid (show ∀ W, Below w.heap.size w W → W.cell? ⟨bb, off + k * 4, none⟩ = some (.string yk) ∧ W.cell? ⟨bb, off + k * 4 + 1, none⟩ = some (.int .i64 ykk) ∧ W.cell? ⟨bb, off + k * 4 + 1 + 1, none⟩ = some (.int .i64 yki) ∧ W.cell? ⟨bb, off + k * 4 + 1 + 2, none⟩ = some (.string ykt) ∧ W.cell? ⟨bb, off + k * 4 + 2, none⟩ = some (.int .i64 yki) ∧ W.cell? ⟨bb, off + k * 4 + 3, none⟩ = some (.string ykt) from fun W hb => by
        have cc : ∀ c u, (ecs (yk, ⟨ykk, yki, ykt⟩))[c]? = some u → W.cell? ⟨bb, off + k * 4 + c, none⟩ = some u := fun c u hu => (hb.cell (World.block_lt_of_cell? _ _ (hcell c u hu))).trans (hcell c u hu)
        exact ⟨cc 0 _ rfl, cc 1 _ rfl, cc 2 _ rfl, cc 3 _ rfl, cc 2 _ rfl, cc 3 _ rfl⟩)
      obtain ⟨d0, d1, d2, d3, d4, d5⟩ := HY.out wr HGG.out.2.2.2.1
      have HC1 := hid (fun W => riskey_any yk W)
      have HC2 := hid (fun W => rcheck_any ykk yki ykt W)
      have HSU := hid hsu
      clear hcell hsu
      cases hk1 : isKeyB yk
      · rw [hk1] at HC1
        have HF := hid (show mdG (l.take (k + 1)) = mdG (l.take k) from by
          rw [HSU.out, if_neg (by simp [goodE, hk1])])
        go_wp2_with (first
          | (go_at_call 17
             refine (HC1.out _).mono ?_
             rintro e w' ⟨rfl, e1⟩
             rw [e1]
             clear e1 w'))
        go_roundw
        case rel => exact ⟨k + 1, by omega, by omega, by go_num, hid (by rw [HF.out, ← HGG.out.2.2.2.2]; exact ⟨a, c, HGG.out.1, HGG.out.2.1, HGG.out.2.2.1, HGG.out.2.2.2.1⟩)⟩
        case measure => simp [intOf]; omega
      rw [hk1] at HC1
      by_cases hk2 : chk ykk yki ykt = 0
      rotate_left
      · obtain ⟨ce, hce⟩ : ∃ ce, ce = chk ykk yki ykt := ⟨_, rfl⟩
        rw [← hce] at HC2 hk2
        have hce0 : (ce == 0) = false := by simpa using hk2
        have HF := hid (show mdG (l.take (k + 1)) = mdG (l.take k) from by
          rw [HSU.out, if_neg (by simp [goodE, hk1, ← hce, hk2])])
        clear hce
        go_wp2_with (first
          | (go_at_call 17
             refine (HC1.out _).mono ?_
             rintro e w' ⟨rfl, e1⟩
             rw [e1]
             clear e1 w')
          | (go_at_call 18
             refine (HC2.out _).mono ?_
             rintro e w2 ⟨rfl, hb2⟩
             have r0' := blk_of hb2 HGG.out.1 (hp_lt HGG.out.1)
             have r1' := blk_of hb2 HGG.out.2.1 (hp_lt HGG.out.2.1)
             have ro' := ownsRow_kept HGG.out.2.2.1 (Kept.ofBelow hb2) (fun _ _ e => e)
             have rb' := below_on HGG.out.2.2.2.1 hb2
             have H2 := hid (And.intro r0' (And.intro r1' (And.intro ro' rb')))
             clear hb2 r0' r1' ro' rb'))
        go_roundw
        case rel => exact ⟨k + 1, by omega, by omega, by go_num, hid (by rw [HF.out, ← HGG.out.2.2.2.2]; exact ⟨a, c, H2.out.1, H2.out.2.1, H2.out.2.2.1, H2.out.2.2.2⟩)⟩
        case measure => simp [intOf]; omega
      rw [hk2] at HC2
      replace HSU := hid (show mdG (l.take (k + 1)) = putG (yk, ⟨ykk, yki, ykt⟩) (mdG (l.take k)) from by
        rw [HSU.out, if_pos (by simp [goodE, hk1, hk2])])
      go_upto_region 6 with (first
        | (go_at_call 17
           refine (HC1.out _).mono ?_
           rintro e w' ⟨rfl, e1⟩
           rw [e1]
           clear e1 w')
        | (go_at_call 18
           refine (HC2.out _).mono ?_
           rintro e w2 ⟨rfl, hb2⟩
           have r0' := blk_of hb2 HGG.out.1 (hp_lt HGG.out.1)
           have r1' := blk_of hb2 HGG.out.2.1 (hp_lt HGG.out.2.1)
           have ro' := ownsRow_kept HGG.out.2.2.1 (Kept.ofBelow hb2) (fun _ _ e => e)
           have rb' := below_on HGG.out.2.2.2.1 hb2
           have H2 := hid (And.intro r0' (And.intro r1' (And.intro ro' rb')))
           obtain ⟨u0, u1, u2⟩ := cells2f r1'
           obtain ⟨x0, x1, x2, x3, x4, x5⟩ := HY.out w2 rb'
           clear hb2 r0' r1' ro' rb'))
      have HP := hid (rput_all (.slice a N c) none 0 0 (yk, ⟨ykk, yki, ykt⟩) (mdG (l.take k)) w2.drew (by have h4 := rf_of_owns H2.out.2.2.1 (ecs_one _); rw [HGG.out.2.2.2.2] at h4 ⊢; exact h4.below ((Below.refl _ w2).drew)) (by have := HM.out; have := HGG.out.2.2.2.2; omega))
      go_region_with (go_at_call 19; refine HP.out.mono ?_; rintro e w3 ⟨a3, c3, rfl, ho3, hb3⟩; have q0 := blk_of hb3 (show w2.drew.heap[w.heap.size]? = _ from H2.out.1) (hp_lt H2.out.1); have q1 := blk_of hb3 (show w2.drew.heap[w.heap.size + 1]? = _ from H2.out.2.1) (hp_lt H2.out.2.1); obtain ⟨s0, s1, s2⟩ := cells2f q1; have hz3 := hp_lt q1; have H3 := hid (And.intro ho3 (And.intro (show Below w.heap.size w w3 from below_on H2.out.2.2.2.drew hb3) (And.intro q0 q1))); clear ho3 hb3 q0 q1)
      all_goals
        go_wp2_with fail
        have hF : ∃ a c, ((w3.setCell ⟨w.heap.size + 1, 0, none⟩ (.slice a3 (putG (yk, ⟨ykk, yki, ykt⟩) (mdG (l.take k))).length c3)).setCell ⟨w.heap.size + 1, 1, none⟩ (.slice none 0 0)).heap[w.heap.size]? = some (.cells #[.slice none 0 0, .slice none 0 0] 26 (0, 0)) ∧ ((w3.setCell ⟨w.heap.size + 1, 0, none⟩ (.slice a3 (putG (yk, ⟨ykk, yki, ykt⟩) (mdG (l.take k))).length c3)).setCell ⟨w.heap.size + 1, 1, none⟩ (.slice none 0 0)).heap[w.heap.size + 1]? = some (.cells #[.slice a (mdG (l.take (k + 1))).length c, .slice none 0 0] 26 (0, 0)) ∧ ((w3.setCell ⟨w.heap.size + 1, 0, none⟩ (.slice a3 (putG (yk, ⟨ykk, yki, ykt⟩) (mdG (l.take k))).length c3)).setCell ⟨w.heap.size + 1, 1, none⟩ (.slice none 0 0)).ownsRow (w.heap.size + 2) 45 4 (.slice a (mdG (l.take (k + 1))).length c) (mdG (l.take (k + 1))).length ((mdG (l.take (k + 1))).flatMap ecs) ∧ Below w.heap.size w ((w3.setCell ⟨w.heap.size + 1, 0, none⟩ (.slice a3 (putG (yk, ⟨ykk, yki, ykt⟩) (mdG (l.take k))).length c3)).setCell ⟨w.heap.size + 1, 1, none⟩ (.slice none 0 0)) := by
          rw [HSU.out]
          have K : Kept (fun k => k = w.heap.size + 1) w3 ((w3.setCell ⟨w.heap.size + 1, 0, none⟩ (.slice a3 (putG (yk, ⟨ykk, yki, ykt⟩) (mdG (l.take k))).length c3)).setCell ⟨w.heap.size + 1, 1, none⟩ (.slice none 0 0)) := ((Kept.refl (fun k => k = w.heap.size + 1) w3).setCell (p := ⟨w.heap.size + 1, 0, none⟩) (fun _ => rfl) _).setCell (p := ⟨w.heap.size + 1, 1, none⟩) (fun _ => rfl) _
          have hz := hp_lt H2.out.2.1
          have ho := ownsRow_kept H3.out.1 K (fun q hq e => by have h5 := (H3.out.1.lt q hq).1; have h6 : w2.drew.heap.size = w2.heap.size := rfl; omega)
          refine ⟨a3, c3, hpk H3.out.2.2.1 K (by omega), set2f H3.out.2.2.2 _ _, owns_mono ho (by have h6 : w2.drew.heap.size = w2.heap.size := rfl; omega), H3.out.2.1.trans (K.below H3.out.2.1.size (fun k hk e => by omega))⟩
        have HF := hid hF
        clear hF
        go_roundw
        case rel => first | exact ⟨k + 1, by omega, by omega, by go_num, HF⟩ | ((repeat apply Exists.intro); exact ⟨⟨k + 1, by omega, by omega, by go_num, HF⟩, rfl⟩)
        case measure => simp [intOf]; omega
    · have HGL := hid HGG.out
      rw [show l.take k = l.take 400 by
        by_cases h4 : k < 400
        · rw [List.take_of_length_le (by omega), List.take_of_length_le (by omega)]
        · rw [show k = 400 by omega]] at HGL
      by_cases hc1 : k < l.length
      · have i1 : (k : Int) < (l.length : Int) := by omega
        have i2 : ¬ (k : Int) < 400 := by omega
        go_wp2_with fail
        refine bodyPost_ret (ret33 Tryz.results6 rfl (set2f HGG.out.1 _ _)) rfl ?_
        have K : Kept (fun k => k = w.heap.size) wr ((wr.setCell ⟨w.heap.size, 0, none⟩ (.slice a N c)).setCell ⟨w.heap.size, 1, none⟩ (.slice none 0 0)) := ((Kept.refl (fun k => k = w.heap.size) wr).setCell (p := ⟨w.heap.size, 0, none⟩) (fun _ => rfl) _).setCell (p := ⟨w.heap.size, 1, none⟩) (fun _ => rfl) _
        obtain ⟨-, -, ro, rb, hN⟩ := HGL.out
        rw [← HR.out.2.2.2.2] at ro hN
        have ho := owns_mono (ownsRow_kept ro K (fun q hq e => by have h5 := (ro.lt q hq).1; omega)) (Nat.zero_le _)
        rw [hN] at ho K ⊢
        exact ⟨a, c, rfl, ho, rb.trans (K.below rb.size (fun k hk e => by omega))⟩
      · have i1 : ¬ (k : Int) < (l.length : Int) := by omega
        go_wp2_with fail
        refine bodyPost_ret (ret33 Tryz.results6 rfl (set2f HGG.out.1 _ _)) rfl ?_
        have K : Kept (fun k => k = w.heap.size) wr ((wr.setCell ⟨w.heap.size, 0, none⟩ (.slice a N c)).setCell ⟨w.heap.size, 1, none⟩ (.slice none 0 0)) := ((Kept.refl (fun k => k = w.heap.size) wr).setCell (p := ⟨w.heap.size, 0, none⟩) (fun _ => rfl) _).setCell (p := ⟨w.heap.size, 1, none⟩) (fun _ => rfl) _
        obtain ⟨-, -, ro, rb, hN⟩ := HGL.out
        rw [← HR.out.2.2.2.2] at ro hN
        have ho := owns_mono (ownsRow_kept ro K (fun q hq e => by have h5 := (ro.lt q hq).1; omega)) (Nat.zero_le _)
        rw [hN] at ho K ⊢
        exact ⟨a, c, rfl, ho, rb.trans (K.below rb.size (fun k hk e => by omega))⟩
theorem made_all (v : Value) (l : List (ByteArray × Vd)) (w : World) (h : Rf w 4 v l.length (l.flatMap ecs)) (T : List (ByteArray × Vd)) (hT : T = mdG (l.take 400)) :
    Calls Tryz.prog 6 #[v] w fun e w' => ∃ a c, e = .returned (.agg #[.slice a T.length c, .slice none 0 0]) ∧ Rf w' 4 (.slice a T.length c) T.length (T.flatMap ecs) ∧ Below w.heap.size w w' := by
  refine (made_own v l w h T hT).mono ?_
  rintro e w' ⟨a, c, rfl, ho, hb⟩
  exact ⟨a, c, rfl, rf_of_owns ho (ecs_one _), hb⟩
end Go.Proofs.YthcoigbkdbkojabGreat
namespace Go.Proofs.YthcoigbkdbkojabGreat
open Go.RowKit Go.MapKept
open V (hp_new hp_lt hp_below hp_alloc kl)
theorem tl_ne {a b : ByteArray} (h : a ≠ b) : (a.toList == b.toList) = false := V.keq_false h
theorem asc_lkp_eq : ∀ {L T : KV}, Asc L → Asc T → (∀ k, lkp k L = lkp k T) → L = T
  | [], [], _, _, _ => rfl
  | [], y :: T, _, _, h => by
    have h1 := h y.1
    unfold lkp at h1
    rw [if_pos rfl] at h1
    cases h1
  | x :: L, [], _, _, h => by
    have h1 := h x.1
    unfold lkp at h1
    rw [if_pos rfl] at h1
    cases h1
  | x :: L, y :: T, hL, hT, h => by
    obtain ⟨hx, hL'⟩ := List.pairwise_cons.1 hL
    obtain ⟨hy, hT'⟩ := List.pairwise_cons.1 hT
    have hlow : ∀ {z : ByteArray × Vd} {M : KV}, (∀ a ∈ M, kl z.1 a.1 = true) → ∀ k, kl k z.1 = true → lkp k (z :: M) = none := by
      intro z M hz k hk
      rw [lkp_none]
      intro hm
      rcases List.mem_map.1 hm with ⟨a, ha, e⟩
      rcases List.mem_cons.1 ha with rfl | ha
      · exact V.kl_ne hk e.symm
      · have := V.kl_trans hk (hz a ha)
        exact V.kl_ne this e.symm
    have e1 : x.1 = y.1 := by
      refine V.kl_tri ?_ ?_
      · cases hk : kl x.1 y.1
        · rfl
        · have h1 := h x.1
          rw [hlow hy x.1 hk] at h1
          unfold lkp at h1
          rw [if_pos rfl] at h1
          cases h1
      · cases hk : kl y.1 x.1
        · rfl
        · have h1 := h y.1
          rw [hlow hx y.1 hk] at h1
          unfold lkp at h1
          rw [if_pos rfl] at h1
          cases h1
    have e2 : x = y := by
      have h1 := h x.1
      unfold lkp at h1
      rw [if_pos rfl, if_pos e1.symm] at h1
      injection h1 with h1
      exact Prod.ext e1 h1
    subst e2
    have e3 : L = T := asc_lkp_eq hL' hT' (fun k => by
      have h1 := h k
      unfold lkp at h1
      by_cases e : x.1 = k
      · subst e
        have n1 : lkp x.1 L = none := lkp_none.2 (fun hm => by
          obtain ⟨a, ha, e⟩ := List.mem_map.1 hm
          exact V.kl_ne (hx a ha) e.symm)
        have n2 : lkp x.1 T = none := lkp_none.2 (fun hm => by
          obtain ⟨a, ha, e⟩ := List.mem_map.1 hm
          exact V.kl_ne (hy a ha) e.symm)
        rw [n1, n2]
      · rw [if_neg e, if_neg e] at h1
        exact h1)
    rw [e3]
theorem rmE_mem {k : ByteArray} {l : List (ByteArray × Vd)} {z : ByteArray × Vd} : z ∈ rmE k l ↔ z ∈ l ∧ z.1 ≠ k := by
  unfold rmE
  rw [List.mem_filter]
  refine and_congr_right fun _ => ?_
  by_cases e : z.1 = k
  · simp [e]
  · simp [tl_ne e, e]
theorem putE_mem {x : ByteArray × Vd} : ∀ {l : List (ByteArray × Vd)} {z : ByteArray × Vd}, Asc l → (z ∈ putE x l ↔ z = x ∨ (z ∈ l ∧ z.1 ≠ x.1))
  | [], z, _ => by unfold putE; simp
  | y :: l, z, h => by
    obtain ⟨hy, hl⟩ := List.pairwise_cons.1 h
    unfold putE
    split
    · rw [List.mem_cons]
      exact or_congr_right rmE_mem
    · rename_i hn
      have h1 : kl x.1 y.1 = false := by
        cases e : kl x.1 y.1
        · rfl
        · exact absurd (by show (Op.bytesLess x.1.toList y.1.toList || _) = true; rw [show Op.bytesLess x.1.toList y.1.toList = true from e]; rfl) hn
      have h2 : y.1 ≠ x.1 := fun e => hn (by rw [e]; simp)
      rw [List.mem_cons, putE_mem hl, List.mem_cons]
      constructor
      · rintro (rfl | rfl | ⟨h3, h4⟩)
        · exact .inr ⟨.inl rfl, h2⟩
        · exact .inl rfl
        · exact .inr ⟨.inr h3, h4⟩
      · rintro (rfl | ⟨rfl | h3, h4⟩)
        · exact .inr (.inl rfl)
        · exact .inl rfl
        · exact .inr (.inr ⟨h3, h4⟩)
theorem rmE_asc {k : ByteArray} {l : List (ByteArray × Vd)} (h : Asc l) : Asc (rmE k l) := List.Pairwise.sublist (List.filter_sublist) h
theorem putE_asc {x : ByteArray × Vd} : ∀ {l : List (ByteArray × Vd)}, Asc l → Asc (putE x l)
  | [], _ => by unfold putE; exact List.pairwise_singleton _ _
  | y :: l, h => by
    obtain ⟨hy, hl⟩ := List.pairwise_cons.1 h
    unfold putE
    split
    · rename_i hn
      refine List.pairwise_cons.2 ⟨fun z hz => ?_, rmE_asc h⟩
      obtain ⟨h1, h2⟩ := rmE_mem.1 hz
      have h3 : kl x.1 y.1 = true ∨ x.1 = y.1 := by
        rcases Bool.or_eq_true _ _ ▸ hn with e | e
        · exact .inl e
        · refine .inr ?_
          by_cases e2 : x.1 = y.1
          · exact e2
          · rw [tl_ne e2] at e; cases e
      rcases List.mem_cons.1 h1 with rfl | h4
      · exact h3.resolve_right (Ne.symm h2)
      · rcases h3 with h3 | h3
        · exact V.kl_trans h3 (hy z h4)
        · rw [h3]; exact hy z h4
    · rename_i hn
      refine List.pairwise_cons.2 ⟨fun z hz => ?_, putE_asc hl⟩
      rcases (putE_mem hl).1 hz with rfl | ⟨h1, -⟩
      · have h1 : kl z.1 y.1 = false := by
          cases e : kl z.1 y.1
          · rfl
          · exact absurd (by show (Op.bytesLess z.1.toList y.1.toList || _) = true; rw [show Op.bytesLess z.1.toList y.1.toList = true from e]; rfl) hn
        have h2 : y.1 ≠ z.1 := fun e => hn (by rw [e]; simp)
        cases e : kl y.1 z.1
        · exact absurd (V.kl_tri e h1) h2
        · rfl
      · exact hy z h1
structure SOk (T : KV) : Prop where
  asc : Asc T
  el : ∀ x ∈ T, isKeyB x.1 = true ∧ chk x.2.k x.2.i x.2.t = 0 ∧ x.2.k ≠ 0
theorem putG_ok {x : ByteArray × Vd} {T : KV} (h : SOk T) (hx : goodE x = true) : SOk (putG x T) := by
  unfold putG
  split
  · exact ⟨rmE_asc h.asc, fun z hz => h.el z (rmE_mem.1 hz).1⟩
  · rename_i h0
    refine ⟨putE_asc h.asc, fun z hz => ?_⟩
    rcases (putE_mem h.asc).1 hz with rfl | ⟨h1, -⟩
    · unfold goodE at hx
      rw [Bool.and_eq_true] at hx
      exact ⟨hx.1, of_decide_eq_true hx.2, h0⟩
    · exact h.el z h1
theorem putG_mem {x : ByteArray × Vd} {T : KV} (h : SOk T) {z : ByteArray × Vd} (hz : z ∈ putG x T) : z = x ∨ z ∈ T := by
  unfold putG at hz
  split at hz
  · exact .inr (rmE_mem.1 hz).1
  · rcases (putE_mem h.asc).1 hz with h1 | h1
    · exact .inl h1
    · exact .inr h1.1
theorem mdG_aux : ∀ (l : List (ByteArray × Vd)) (T : KV), SOk T → SOk (l.foldl (fun s x => if goodE x = true then putG x s else s) T) ∧ ∀ z ∈ l.foldl (fun s x => if goodE x = true then putG x s else s) T, z ∈ T ∨ z ∈ l
  | [], T, h => ⟨h, fun z hz => .inl hz⟩
  | x :: l, T, h => by
    rw [List.foldl_cons]
    split
    · rename_i hg
      obtain ⟨h1, h2⟩ := mdG_aux l (putG x T) (putG_ok h hg)
      refine ⟨h1, fun z hz => ?_⟩
      rcases h2 z hz with h3 | h3
      · rcases putG_mem h h3 with h4 | h4
        · exact .inr (by rw [h4]; exact List.mem_cons_self)
        · exact .inl h4
      · exact .inr (List.mem_cons_of_mem _ h3)
    · obtain ⟨h1, h2⟩ := mdG_aux l T h
      exact ⟨h1, fun z hz => (h2 z hz).imp id (List.mem_cons_of_mem _)⟩
theorem mdG_ok (l : List (ByteArray × Vd)) : SOk (mdG l) := (mdG_aux l [] ⟨List.Pairwise.nil, fun _ h => nomatch h⟩).1
theorem mdG_mem {l : List (ByteArray × Vd)} {z : ByteArray × Vd} (hz : z ∈ mdG l) : z ∈ l := ((mdG_aux l [] ⟨List.Pairwise.nil, fun _ h => nomatch h⟩).2 z hz).resolve_left (fun h => nomatch h)
theorem SOk.lok {T : KV} (h : SOk T) (hi : ∀ x ∈ T, inR x.2.i = true) : LOk T :=
  ⟨⟨h.asc, fun x hx => (h.el x hx).2.2, fun x hx => (h.el x hx).1⟩, fun x hx => ⟨(h.el x hx).2.1, hi x hx⟩⟩
theorem lkp_cons (k : ByteArray) (x : ByteArray × Vd) (l : KV) : lkp k (x :: l) = if x.1 = k then some x.2 else lkp k l := rfl
theorem stG_lkp {T : KV} (h : Asc T) (k : ByteArray) : (stG T k).map vdOf = lkp k T := by
  have aux : ∀ (T : KV) (g : ByteArray → Option V.Pd), Asc T → (T.foldl (fun g x => V.updG g x.1 (pdOf x.2)) g k) = match lkp k T with | some v => some (pdOf v) | none => g k := by
    intro T
    induction T with
    | nil => intro g _; rfl
    | cons x T ih =>
      intro g h
      obtain ⟨hx, hT⟩ := List.pairwise_cons.1 h
      rw [List.foldl_cons, ih _ hT]
      rw [lkp_cons]
      by_cases e : x.1 = k
      · subst e
        have n1 : lkp x.1 T = none := lkp_none.2 (fun hm => by
          obtain ⟨a, ha, e⟩ := List.mem_map.1 hm
          exact V.kl_ne (hx a ha) e.symm)
        rw [if_pos rfl, n1]
        simp [V.updG]
      · rw [if_neg e]
        cases lkp k T with
        | some v => rfl
        | none => simp [V.updG, Ne.symm e]
  unfold stG
  rw [aux T _ h]
  cases lkp k T <;> rfl
theorem vl_of_store {w : World} {p n B : Nat} {T : KV} (h : V.PV w p (stG T) false n B) (ha : Asc T) : VL w p T := by
  obtain ⟨L, h1, -, h3⟩ := VL.of h
  have e : L = T := asc_lkp_eq h1.asc ha (fun k => by rw [h3 k, stG_lkp ha k])
  rw [← e]
  exact h1
end Go.Proofs.YthcoigbkdbkojabGreat
