import Derived.Test.YthcoigbkdbkojaaGreatK12
import Derived.Test.YthcoigbkdbkojaaGreatK06
import Derived.Laws.EntriesVeiled
namespace Go.Proofs.YthcoigbkdbkojaaGreat
open Go.RowKit
open V (hp_new hp_lt hp_below hp_alloc)

abbrev rmE (k : ByteArray) (l : List (ByteArray × Vd)) : List (ByteArray × Vd) := l.filter (fun z => !(z.1.toList == k.toList))

theorem rm_succ (xk : ByteArray) {l : List (ByteArray × Vd)} {k : Nat} {y : ByteArray × Vd} (h : l[k]? = some y) : rmE xk (l.take (k + 1)) = rmE xk (l.take k) ++ (if (y.1.toList == xk.toList) = true then [] else [y]) := by
  rw [List.take_add_one, h]
  show rmE xk (l.take k ++ [y]) = _
  unfold rmE
  rw [List.filter_append]
  congr 1
  cases e : (y.1.toList == xk.toList) <;> simp [e]

set_option maxRecDepth 100000 in
set_option maxHeartbeats 6400000 in
theorem put_zero (v : Value) (xk : ByteArray) (ki : Int) (kt : ByteArray) (l : List (ByteArray × Vd)) (w : World) (h : Rf w 4 v l.length (l.flatMap ecs)) (hl : l.length ≤ 1000) :
    Calls Tryz.prog 43 #[v, .agg (eca (xk, ⟨0, ki, kt⟩)), .bool false] w fun e w' => ∃ v', e = .returned v' ∧ w'.ownsRow (w.heap.size + 1) 54 4 v' (rmE xk l).length ((rmE xk l).flatMap ecs) ∧ Below w.heap.size w w' := by
  obtain ⟨ao, cap, rfl, -, -⟩ := h.shape
  have HR := hid h
  have hb0 : Below w.heap.size w (w.alloc (.cells (eca (xk, ⟨0, ki, kt⟩)) 54)) := below1 w _
  have HB0 := hid (And.intro hb0 (hp_new w (.cells (eca (xk, ⟨0, ki, kt⟩)) 54)))
  have HX := hid (show ∀ W, Below (w.heap.size + 1) (w.alloc (.cells (eca (xk, ⟨0, ki, kt⟩)) 54)) W → W.cell? ⟨w.heap.size, 0, none⟩ = some (.string xk) ∧ W.cell? ⟨w.heap.size, 1, none⟩ = some (.int .i64 0) ∧ W.cell? ⟨w.heap.size, 2, none⟩ = some (.int .i64 ki) ∧ W.cell? ⟨w.heap.size, 3, none⟩ = some (.string kt) ∧ Below w.heap.size w W from fun W hb => by
    have h1 := blk_of hb HB0.out.2 (Nat.lt_succ_self _)
    refine ⟨?_, ?_, ?_, ?_, HB0.out.1.trans (hb.mono (Nat.le_succ _))⟩ <;> (rw [cell_of_row _ _ _ _ _ _ h1]; rfl))
  have es : (w.alloc (.cells (eca (xk, ⟨0, ki, kt⟩)) 54)).heap.size = w.heap.size + 1 := by simp
  clear h hb0
  go_enter Tryz.func43, Tryz.ntmps43
  go_wp2_with fail
  go_loopw [7, 8, 9] (fun u dv i wr => ∃ (k n : Nat) (dn : Bool) (out : List (ByteArray × Vd)), i = .int .i64 k ∧ dv = .bool dn ∧ k ≤ l.length ∧ Hid (Ke (w.alloc (.cells (eca (xk, ⟨0, ki, kt⟩)) 54)) wr u n out ∧ out = rmE xk (l.take k))) (fun _ _ i _ => l.length - (intOf i).toNat)
  case atStart => exact ⟨0, 0, false, [], rfl, rfl, Nat.zero_le _, hid ⟨⟨World.ownsRow_nil _ _ _ _, Below.refl _ _, rfl⟩, rfl⟩⟩
  case round =>
    obtain ⟨k, n, dn, out, rfl, rfl, hk, HK⟩ := hrel
    obtain ⟨ao2, cap2, eu⟩ := HK.out.1.shape
    subst eu
    have HN := hid (show n ≤ 1001 from by
      have h2 := HK.out.1.len
      have h3 := congrArg List.length HK.out.2
      have h4 : (rmE xk (l.take k)).length ≤ (l.take k).length := List.length_filter_le _ _
      have h5 := List.length_take_le k l
      have h6 : (l.take k).length ≤ l.length := by rw [List.length_take]; omega
      omega)
    have hB := HK.out.1.bl
    rw [es] at hB
    obtain ⟨b0, b1, b2, b3, hbw⟩ := HX.out wr hB
    have HBW := hid (And.intro hB hbw)
    clear hB hbw
    by_cases h1 : k < l.length
    · have i1 : (k : Int) < (l.length : Int) := by omega
      obtain ⟨bb, off, cap', e, -, -, hcell⟩ := Rf.elem (f := ecs) (fun _ => rfl) (by omega) HR.out k h1
      injection e with e1 e2 e3
      subst e1 e3
      clear e2
      have hd : l[k]? = some l[k] := List.getElem?_eq_getElem h1
      obtain ⟨y, hy⟩ : ∃ y, y = l[k] := ⟨_, rfl⟩
      rw [← hy] at hcell hd
      clear hy
      obtain ⟨yk, yv⟩ := y
      obtain ⟨ykk, yki, ykt⟩ := yv
      have HY := hid (show ∀ W, Below w.heap.size w W → W.cell? ⟨bb, off + k * 4, none⟩ = some (.string yk) ∧ W.cell? ⟨bb, off + k * 4 + 1, none⟩ = some (.int .i64 ykk) ∧ W.cell? ⟨bb, off + k * 4 + 2, none⟩ = some (.int .i64 yki) ∧ W.cell? ⟨bb, off + k * 4 + 3, none⟩ = some (.string ykt) from fun W hb => by
        have cc : ∀ c u, (ecs (yk, ⟨ykk, yki, ykt⟩))[c]? = some u → W.cell? ⟨bb, off + k * 4 + c, none⟩ = some u := fun c u hu => (hb.cell (World.block_lt_of_cell? _ _ (hcell c u hu))).trans (hcell c u hu)
        exact ⟨cc 0 _ rfl, cc 1 _ rfl, cc 2 _ rfl, cc 3 _ rfl⟩)
      obtain ⟨c0, c1, c2, c3⟩ := HY.out wr HBW.out.2
      have HD := hid (rm_succ xk hd)
      clear hcell hd
      have hsy : (yk.toList == xk.toList) = (xk.toList == yk.toList) := Bool.beq_comm
      cases dn
      · cases hq : (xk.toList == yk.toList)
        · rw [hq] at hsy
          cases hlt : Op.bytesLess xk.toList yk.toList
          · skip
            have K0 := hid (HK.out.1.on (((Below.refl _ wr).drew).drew))
            go_upto_region 6 with fail
            go_region
            go_upto_region 10 with fail
            go_region
            go_wp2_with (
                       at_builtin
                       refine wpList_append_rf ((wr.drew.drew).alloc (.cells (eca (yk, ⟨ykk, yki, ykt⟩)) 54)) rfl (.tmp 47) (.tmp 52) 22 54 _ 4 48 rfl Tryz.underlying22 Tryz.info54 rfl (by omega) _ _ _ _ rfl (K0.out.on (below1 _ _)).ow (.slice (some ⟨(wr.drew.drew).heap.size, 0, none⟩) 1 1) 1 (ecs (yk, ⟨ykk, yki, ykt⟩)) rfl (rf_e (wr.drew.drew) (yk, ⟨ykk, yki, ykt⟩)) (by have := HN.out; omega) (by have := HN.out; unfold maxLen; omega) (K0.out.on (below1 _ _)).bl.size ?_
                       intro a3 q3 w3 ho3 hg3 hat3
                       have K3 := hid ((K0.out.on (below1 _ _)).step ho3.out rfl hg3.out)
                       clear ho3 hg3 hat3)
            go_roundw
            case rel => exact ⟨k + 1, _, false, out ++ [(yk, ⟨ykk, yki, ykt⟩)], by go_num, rfl, by omega, hid ⟨K3.out, by have h5 := HD.out; rw [if_neg (by rw [hsy]; decide)] at h5; rw [h5, HK.out.2]⟩⟩
            case measure => simp [intOf]; omega
          · skip
            have K0 := hid (HK.out.1.on (((Below.refl _ wr).drew).drew))
            go_upto_region 6 with fail
            go_region
            go_upto_region 10 with fail
            go_region
            go_wp2_with (
                       at_builtin
                       refine wpList_append_rf ((wr.drew.drew).alloc (.cells (eca (yk, ⟨ykk, yki, ykt⟩)) 54)) rfl (.tmp 47) (.tmp 52) 22 54 _ 4 48 rfl Tryz.underlying22 Tryz.info54 rfl (by omega) _ _ _ _ rfl (K0.out.on (below1 _ _)).ow (.slice (some ⟨(wr.drew.drew).heap.size, 0, none⟩) 1 1) 1 (ecs (yk, ⟨ykk, yki, ykt⟩)) rfl (rf_e (wr.drew.drew) (yk, ⟨ykk, yki, ykt⟩)) (by have := HN.out; omega) (by have := HN.out; unfold maxLen; omega) (K0.out.on (below1 _ _)).bl.size ?_
                       intro a3 q3 w3 ho3 hg3 hat3
                       have K3 := hid ((K0.out.on (below1 _ _)).step ho3.out rfl hg3.out)
                       clear ho3 hg3 hat3)
            go_roundw
            case rel => exact ⟨k + 1, _, true, out ++ [(yk, ⟨ykk, yki, ykt⟩)], by go_num, rfl, by omega, hid ⟨K3.out, by have h5 := HD.out; rw [if_neg (by rw [hsy]; decide)] at h5; rw [h5, HK.out.2]⟩⟩
            case measure => simp [intOf]; omega
        · rw [hq] at hsy
          cases hlt : Op.bytesLess xk.toList yk.toList
          · skip
            have K0 := hid (HK.out.1.on (((Below.refl _ wr).drew).drew))
            go_upto_region 6 with fail
            go_region
            go_upto_region 10 with fail
            go_region
            go_wp2_with fail
            go_roundw
            case rel => exact ⟨k + 1, _, true, out, by go_num, rfl, by omega, hid ⟨K0.out, by have h5 := HD.out; rw [if_pos hsy, List.append_nil] at h5; rw [h5, HK.out.2]⟩⟩
            case measure => simp [intOf]; omega
          · skip
            have K0 := hid (HK.out.1.on (((Below.refl _ wr).drew).drew))
            go_upto_region 6 with fail
            go_region
            go_upto_region 10 with fail
            go_region
            go_wp2_with fail
            go_roundw
            case rel => exact ⟨k + 1, _, true, out, by go_num, rfl, by omega, hid ⟨K0.out, by have h5 := HD.out; rw [if_pos hsy, List.append_nil] at h5; rw [h5, HK.out.2]⟩⟩
            case measure => simp [intOf]; omega
      · cases hq : (xk.toList == yk.toList)
        · rw [hq] at hsy
          have K0 := hid (HK.out.1.on (((Below.refl _ wr).drew).drew))
          go_upto_region 6 with fail
          go_region
          go_upto_region 10 with fail
          go_region
          go_wp2_with (
                     at_builtin
                     refine wpList_append_rf ((wr.drew.drew).alloc (.cells (eca (yk, ⟨ykk, yki, ykt⟩)) 54)) rfl (.tmp 47) (.tmp 52) 22 54 _ 4 48 rfl Tryz.underlying22 Tryz.info54 rfl (by omega) _ _ _ _ rfl (K0.out.on (below1 _ _)).ow (.slice (some ⟨(wr.drew.drew).heap.size, 0, none⟩) 1 1) 1 (ecs (yk, ⟨ykk, yki, ykt⟩)) rfl (rf_e (wr.drew.drew) (yk, ⟨ykk, yki, ykt⟩)) (by have := HN.out; omega) (by have := HN.out; unfold maxLen; omega) (K0.out.on (below1 _ _)).bl.size ?_
                     intro a3 q3 w3 ho3 hg3 hat3
                     have K3 := hid ((K0.out.on (below1 _ _)).step ho3.out rfl hg3.out)
                     clear ho3 hg3 hat3)
          go_roundw
          case rel => exact ⟨k + 1, _, true, out ++ [(yk, ⟨ykk, yki, ykt⟩)], by go_num, rfl, by omega, hid ⟨K3.out, by have h5 := HD.out; rw [if_neg (by rw [hsy]; decide)] at h5; rw [h5, HK.out.2]⟩⟩
          case measure => simp [intOf]; omega
        · rw [hq] at hsy
          have K0 := hid (HK.out.1.on (((Below.refl _ wr).drew).drew))
          go_upto_region 6 with fail
          go_region
          go_upto_region 10 with fail
          go_region
          go_wp2_with fail
          go_roundw
          case rel => exact ⟨k + 1, _, true, out, by go_num, rfl, by omega, hid ⟨K0.out, by have h5 := HD.out; rw [if_pos hsy, List.append_nil] at h5; rw [h5, HK.out.2]⟩⟩
          case measure => simp [intOf]; omega
    · have hk1 : k = l.length := by omega
      have h1' : ¬ (k : Int) < l.length := by omega
      have HE := hid HK.out.2
      rw [hk1, List.take_length] at HE
      cases dn
      all_goals
        go_wp2_with fail
        go_ret
        have h9 := HK.out.1
        rw [HE.out] at h9
        refine ⟨_, rfl, ?_, HB0.out.1.trans (h9.bl.mono (by rw [es]; exact Nat.le_succ _))⟩
        have h8 := h9.ow
        rw [es] at h8
        rw [← h9.len]
        exact h8

/-- Entries with one more, or without one. -/
def putG (x : ByteArray × Vd) (l : List (ByteArray × Vd)) : List (ByteArray × Vd) := if x.2.k = 0 then rmE x.1 l else putE x l

theorem putG_len (x : ByteArray × Vd) (l : List (ByteArray × Vd)) : (putG x l).length ≤ l.length + 1 := by
  unfold putG
  split
  · have : (rmE x.1 l).length ≤ l.length := List.length_filter_le _ _
    omega
  · exact putE_len x l

theorem put_all (v : Value) (x : ByteArray × Vd) (l : List (ByteArray × Vd)) (w : World) (h : Rf w 4 v l.length (l.flatMap ecs)) (hl : l.length ≤ 1000) :
    Calls Tryz.prog 43 #[v, .agg (eca x), .bool false] w fun e w' => ∃ v', e = .returned v' ∧ w'.ownsRow (w.heap.size + 1) 54 4 v' (putG x l).length ((putG x l).flatMap ecs) ∧ Below w.heap.size w w' := by
  obtain ⟨xk, kk, ki, kt⟩ := x
  by_cases h0 : kk = 0
  · subst h0
    exact put_zero v xk ki kt l w h hl
  · have e : putG (xk, ⟨kk, ki, kt⟩) l = putE (xk, ⟨kk, ki, kt⟩) l := by unfold putG; exact if_neg h0
    rw [e]
    exact put_any v (xk, ⟨kk, ki, kt⟩) l w h hl h0

set_option maxRecDepth 100000 in
set_option maxHeartbeats 3200000 in

theorem rput_all (v : Value) (pa : Option Addr) (pn pc : Nat) (x : ByteArray × Vd) (l : List (ByteArray × Vd)) (w : World) (h : Rf w 4 v l.length (l.flatMap ecs)) (hl : l.length ≤ 1000) :
    Calls Tryz.prog 18 #[.agg #[v, .slice pa pn pc], .agg (eca x)] w fun e w' => ∃ a c, e = .returned (.agg #[.slice a (putG x l).length c, .slice pa pn pc]) ∧ w'.ownsRow (w.heap.size + 3) 54 4 (.slice a (putG x l).length c) (putG x l).length ((putG x l).flatMap ecs) ∧ Below w.heap.size w w' := by
  obtain ⟨ao, cap, rfl, -, -⟩ := h.shape
  obtain ⟨hA, hB, hC, hb0⟩ := three w (.cells #[.slice ao l.length cap, .slice pa pn pc] 33) (.cells (eca x) 54) (.cells #[.slice none 0 0, .slice none 0 0] 33)
  have es : (((w.alloc (.cells #[.slice ao l.length cap, .slice pa pn pc] 33)).alloc (.cells (eca x) 54)).alloc (.cells #[.slice none 0 0, .slice none 0 0] 33)).heap.size = w.heap.size + 3 := by simp
  have HP := hid (put_all (.slice ao l.length cap) x l _ (h.below hb0) hl)
  rw [es] at HP
  have H := hid (And.intro hA (And.intro hC hb0))
  clear h hA hB hC hb0
  obtain ⟨xk, kk, ki, kt⟩ := x
  go_enter Tryz.func18, Tryz.ntmps18
  go_wp2_with (first
    | (go_at_call 43
       refine HP.out.mono ?_
       rintro e w1 ⟨v1, rfl, ho, hb1⟩
       obtain ⟨a1, c1, rfl⟩ := own_shape ho
       have hA1 := blk_of hb1 H.out.1 (by rw [← es]; exact hp_lt H.out.1)
       have hC1 := blk_of hb1 H.out.2.1 (by rw [← es]; exact hp_lt H.out.2.1)
       obtain ⟨f0, f1, f2⟩ := cells2f hA1
       obtain ⟨g0, g1, g2⟩ := cells2f hC1
       have hz1 := hp_lt hA1
       have hz2 := hp_lt hC1
       have H1 := hid (And.intro ho (And.intro (H.out.2.2.trans (hb1.mono (by omega))) (And.intro hA1 hC1)))
       clear ho hb1 hA1 hC1))
  have hne : w.heap.size + 1 + 1 ≠ w.heap.size := by omega
  refine bodyPost_ret (ret33 Tryz.results18 rfl (set2f (V.hp_set H1.out.2.2.2 (p := ⟨w.heap.size, 0, none⟩) hne _) _ _)) rfl ?_
  generalize hn : (putG (xk, ⟨kk, ki, kt⟩) l).length = N at *
  have K : Kept (fun k => k = w.heap.size ∨ k = w.heap.size + 1 + 1) w1 (((w1.setCell ⟨w.heap.size, 0, none⟩ (.slice a1 N c1)).setCell ⟨w.heap.size + 1 + 1, 0, none⟩ (.slice a1 N c1)).setCell ⟨w.heap.size + 1 + 1, 1, none⟩ (.slice pa pn pc)) :=
    (((Kept.refl (fun k => k = w.heap.size ∨ k = w.heap.size + 1 + 1) w1).setCell (p := ⟨w.heap.size, 0, none⟩) (fun _ => .inl rfl) _).setCell (p := ⟨w.heap.size + 1 + 1, 0, none⟩) (fun _ => .inr rfl) _).setCell (p := ⟨w.heap.size + 1 + 1, 1, none⟩) (fun _ => .inr rfl) _
  have ho := ownsRow_kept H1.out.1 K (fun k hk e => by have := (H1.out.1.lt k hk).1; omega)
  exact ⟨a1, c1, rfl, owns_mono ho (by omega), H1.out.2.1.trans (K.below H1.out.2.1.size (fun k hk e => by omega))⟩

/-- An entry that is taken. -/
def goodE (x : ByteArray × Vd) : Bool := isKeyB x.1 && decide (chk x.2.k x.2.i x.2.t = 0)
def mdG (l : List (ByteArray × Vd)) : List (ByteArray × Vd) := l.foldl (fun s x => if goodE x = true then putG x s else s) []
theorem mdG_succ (l : List (ByteArray × Vd)) (k : Nat) (h : k < l.length) : mdG (l.take (k + 1)) = if goodE l[k] = true then putG l[k] (mdG (l.take k)) else mdG (l.take k) := by
  unfold mdG
  rw [List.take_add_one, List.getElem?_eq_getElem h, List.foldl_append]
  rfl
theorem mdG_len (l : List (ByteArray × Vd)) : ∀ k, (mdG (l.take k)).length ≤ k
  | 0 => by simp [mdG]
  | k + 1 => by
    by_cases h : k < l.length
    · rw [mdG_succ l k h]
      have := putG_len l[k] (mdG (l.take k))
      have := mdG_len l k
      split <;> omega
    · have h1 := mdG_len l k
      rw [List.take_of_length_le (by omega)] at h1 ⊢
      omega

set_option maxRecDepth 100000 in
set_option maxHeartbeats 6400000 in

theorem made_own (v : Value) (l : List (ByteArray × Vd)) (w : World) (h : Rf w 4 v l.length (l.flatMap ecs)) (T : List (ByteArray × Vd)) (hT : T = mdG (l.take 400)) :
    Calls Tryz.prog 9 #[v] w fun e w' => ∃ a c, e = .returned (.agg #[.slice a T.length c, .slice none 0 0]) ∧ w'.ownsRow 0 54 4 (.slice a T.length c) T.length (T.flatMap ecs) ∧ Below w.heap.size w w' := by
  obtain ⟨ao, cap, rfl, -, -⟩ := h.shape
  have hA := two1 w (.cells #[.slice none 0 0, .slice none 0 0] 33) (.cells #[.slice none 0 0, .slice none 0 0] 33)
  have hC := two2 w (.cells #[.slice none 0 0, .slice none 0 0] 33) (.cells #[.slice none 0 0, .slice none 0 0] 33)
  have hb0 : Below w.heap.size w ((w.alloc (.cells #[.slice none 0 0, .slice none 0 0] 33)).alloc (.cells #[.slice none 0 0, .slice none 0 0] 33)) := (below1 w _).alloc (by simp) _
  have HR := hid (And.intro h (And.intro hb0 (And.intro hA (And.intro hC hT))))
  clear h hb0 hA hC hT
  go_enter Tryz.func9, Tryz.ntmps9
  go_wp2_with fail
  go_loopw [4] (fun ix wr => ∃ k : Nat, k ≤ l.length ∧ k ≤ 400 ∧ ix = .int .i64 k ∧ Hid (∃ a c, wr.heap[w.heap.size]? = some (.cells #[.slice none 0 0, .slice none 0 0] 33 (0, 0)) ∧ wr.heap[w.heap.size + 1]? = some (.cells #[.slice a (mdG (l.take k)).length c, .slice none 0 0] 33 (0, 0)) ∧ wr.ownsRow (w.heap.size + 2) 54 4 (.slice a (mdG (l.take k)).length c) (mdG (l.take k)).length ((mdG (l.take k)).flatMap ecs) ∧ Below w.heap.size w wr)) (fun ix _ => l.length - (intOf ix).toNat)
  case atStart => exact ⟨0, Nat.zero_le _, by omega, by go_num, hid ⟨none, 0, HR.out.2.2.1, HR.out.2.2.2.1, owns_nil _ _ _ _, HR.out.2.1⟩⟩
  case round =>
    obtain ⟨k, hk, hk4, rfl, HG⟩ := hrel
    obtain ⟨a, c, r0, r1, ro, rb⟩ := HG.out
    obtain ⟨f0, f1, f2⟩ := cells2f r0
    obtain ⟨g0, g1, g2⟩ := cells2f r1
    have hz1 := hp_lt r0
    have hz2 := hp_lt r1
    have HM := hid (mdG_len l k)
    obtain ⟨N, hN⟩ : ∃ N, N = (mdG (l.take k)).length := ⟨_, rfl⟩
    rw [← hN] at g0 r1 ro HM
    have HGG := hid (And.intro r0 (And.intro r1 (And.intro ro (And.intro rb hN))))
    clear r0 r1 ro rb hN HG
    by_cases hlt : k < l.length ∧ k < 400
    · obtain ⟨hlt, hlt4⟩ := hlt
      have i1 : (k : Int) < (l.length : Int) := by omega
      have i2 : (k : Int) < 400 := by omega
      obtain ⟨bb, off, cap', e, -, -, hcell⟩ := Rf.elem (f := ecs) (fun _ => rfl) (by omega) HR.out.1 k hlt
      injection e with e1 e2 e3
      subst e1 e3
      clear e2
      have hsu := mdG_succ l k hlt
      obtain ⟨y, hy⟩ : ∃ y, y = l[k] := ⟨_, rfl⟩
      rw [← hy] at hcell hsu
      clear hy
      obtain ⟨yk, yv⟩ := y
      obtain ⟨ykk, yki, ykt⟩ := yv
      have HY := hid (show ∀ W, Below w.heap.size w W → W.cell? ⟨bb, off + k * 4, none⟩ = some (.string yk) ∧ W.cell? ⟨bb, off + k * 4 + 1, none⟩ = some (.int .i64 ykk) ∧ W.cell? ⟨bb, off + k * 4 + 1 + 1, none⟩ = some (.int .i64 yki) ∧ W.cell? ⟨bb, off + k * 4 + 1 + 2, none⟩ = some (.string ykt) ∧ W.cell? ⟨bb, off + k * 4 + 2, none⟩ = some (.int .i64 yki) ∧ W.cell? ⟨bb, off + k * 4 + 3, none⟩ = some (.string ykt) from fun W hb => by
        have cc : ∀ c u, (ecs (yk, ⟨ykk, yki, ykt⟩))[c]? = some u → W.cell? ⟨bb, off + k * 4 + c, none⟩ = some u := fun c u hu => (hb.cell (World.block_lt_of_cell? _ _ (hcell c u hu))).trans (hcell c u hu)
        exact ⟨cc 0 _ rfl, cc 1 _ rfl, cc 2 _ rfl, cc 3 _ rfl, cc 2 _ rfl, cc 3 _ rfl⟩)
      obtain ⟨d0, d1, d2, d3, d4, d5⟩ := HY.out wr HGG.out.2.2.2.1
      have HC1 := hid (fun W => riskey_any yk W)
      have HC2 := hid (fun W => rcheck_any ykk yki ykt W)
      have HSU := hid hsu
      clear hcell hsu
      cases hk1 : isKeyB yk
      · rw [hk1] at HC1
        have HF := hid (show mdG (l.take (k + 1)) = mdG (l.take k) from by
          rw [HSU.out, if_neg (by simp [goodE, hk1])])
        go_wp2_with (first
          | (go_at_call 19
             refine (HC1.out _).mono ?_
             rintro e w' ⟨rfl, e1⟩
             rw [e1]
             clear e1 w'))
        go_roundw
        case rel => exact ⟨k + 1, by omega, by omega, by go_num, hid (by rw [HF.out, ← HGG.out.2.2.2.2]; exact ⟨a, c, HGG.out.1, HGG.out.2.1, HGG.out.2.2.1, HGG.out.2.2.2.1⟩)⟩
        case measure => simp [intOf]; omega
      rw [hk1] at HC1
      by_cases hk2 : chk ykk yki ykt = 0
      rotate_left
      · obtain ⟨ce, hce⟩ : ∃ ce, ce = chk ykk yki ykt := ⟨_, rfl⟩
        rw [← hce] at HC2 hk2
        have hce0 : (ce == 0) = false := by simpa using hk2
        have HF := hid (show mdG (l.take (k + 1)) = mdG (l.take k) from by
          rw [HSU.out, if_neg (by simp [goodE, hk1, ← hce, hk2])])
        clear hce
        go_wp2_with (first
          | (go_at_call 19
             refine (HC1.out _).mono ?_
             rintro e w' ⟨rfl, e1⟩
             rw [e1]
             clear e1 w')
          | (go_at_call 20
             refine (HC2.out _).mono ?_
             rintro e w2 ⟨rfl, hb2⟩
             have r0' := blk_of hb2 HGG.out.1 (hp_lt HGG.out.1)
             have r1' := blk_of hb2 HGG.out.2.1 (hp_lt HGG.out.2.1)
             have ro' := ownsRow_kept HGG.out.2.2.1 (Kept.ofBelow hb2) (fun _ _ e => e)
             have rb' := below_on HGG.out.2.2.2.1 hb2
             have H2 := hid (And.intro r0' (And.intro r1' (And.intro ro' rb')))
             clear hb2 r0' r1' ro' rb'))
        go_roundw
        case rel => exact ⟨k + 1, by omega, by omega, by go_num, hid (by rw [HF.out, ← HGG.out.2.2.2.2]; exact ⟨a, c, H2.out.1, H2.out.2.1, H2.out.2.2.1, H2.out.2.2.2⟩)⟩
        case measure => simp [intOf]; omega
      rw [hk2] at HC2
      replace HSU := hid (show mdG (l.take (k + 1)) = putG (yk, ⟨ykk, yki, ykt⟩) (mdG (l.take k)) from by
        rw [HSU.out, if_pos (by simp [goodE, hk1, hk2])])
      go_upto_region 6 with (first
        | (go_at_call 19
           refine (HC1.out _).mono ?_
           rintro e w' ⟨rfl, e1⟩
           rw [e1]
           clear e1 w')
        | (go_at_call 20
           refine (HC2.out _).mono ?_
           rintro e w2 ⟨rfl, hb2⟩
           have r0' := blk_of hb2 HGG.out.1 (hp_lt HGG.out.1)
           have r1' := blk_of hb2 HGG.out.2.1 (hp_lt HGG.out.2.1)
           have ro' := ownsRow_kept HGG.out.2.2.1 (Kept.ofBelow hb2) (fun _ _ e => e)
           have rb' := below_on HGG.out.2.2.2.1 hb2
           have H2 := hid (And.intro r0' (And.intro r1' (And.intro ro' rb')))
           obtain ⟨u0, u1, u2⟩ := cells2f r1'
           obtain ⟨x0, x1, x2, x3, x4, x5⟩ := HY.out w2 rb'
           clear hb2 r0' r1' ro' rb'))
      have HP := hid (rput_all (.slice a N c) none 0 0 (yk, ⟨ykk, yki, ykt⟩) (mdG (l.take k)) w2.drew (by have h4 := rf_of_owns H2.out.2.2.1 (ecs_one _); rw [HGG.out.2.2.2.2] at h4 ⊢; exact h4.below ((Below.refl _ w2).drew)) (by have := HM.out; have := HGG.out.2.2.2.2; omega))
      go_region_with (go_at_call 18; refine HP.out.mono ?_; rintro e w3 ⟨a3, c3, rfl, ho3, hb3⟩; have q0 := blk_of hb3 (show w2.drew.heap[w.heap.size]? = _ from H2.out.1) (hp_lt H2.out.1); have q1 := blk_of hb3 (show w2.drew.heap[w.heap.size + 1]? = _ from H2.out.2.1) (hp_lt H2.out.2.1); obtain ⟨s0, s1, s2⟩ := cells2f q1; have hz3 := hp_lt q1; have H3 := hid (And.intro ho3 (And.intro (show Below w.heap.size w w3 from below_on H2.out.2.2.2.drew hb3) (And.intro q0 q1))); clear ho3 hb3 q0 q1)
      all_goals
        go_wp2_with fail
        have hF : ∃ a c, ((w3.setCell ⟨w.heap.size + 1, 0, none⟩ (.slice a3 (putG (yk, ⟨ykk, yki, ykt⟩) (mdG (l.take k))).length c3)).setCell ⟨w.heap.size + 1, 1, none⟩ (.slice none 0 0)).heap[w.heap.size]? = some (.cells #[.slice none 0 0, .slice none 0 0] 33 (0, 0)) ∧ ((w3.setCell ⟨w.heap.size + 1, 0, none⟩ (.slice a3 (putG (yk, ⟨ykk, yki, ykt⟩) (mdG (l.take k))).length c3)).setCell ⟨w.heap.size + 1, 1, none⟩ (.slice none 0 0)).heap[w.heap.size + 1]? = some (.cells #[.slice a (mdG (l.take (k + 1))).length c, .slice none 0 0] 33 (0, 0)) ∧ ((w3.setCell ⟨w.heap.size + 1, 0, none⟩ (.slice a3 (putG (yk, ⟨ykk, yki, ykt⟩) (mdG (l.take k))).length c3)).setCell ⟨w.heap.size + 1, 1, none⟩ (.slice none 0 0)).ownsRow (w.heap.size + 2) 54 4 (.slice a (mdG (l.take (k + 1))).length c) (mdG (l.take (k + 1))).length ((mdG (l.take (k + 1))).flatMap ecs) ∧ Below w.heap.size w ((w3.setCell ⟨w.heap.size + 1, 0, none⟩ (.slice a3 (putG (yk, ⟨ykk, yki, ykt⟩) (mdG (l.take k))).length c3)).setCell ⟨w.heap.size + 1, 1, none⟩ (.slice none 0 0)) := by
          rw [HSU.out]
          have K : Kept (fun k => k = w.heap.size + 1) w3 ((w3.setCell ⟨w.heap.size + 1, 0, none⟩ (.slice a3 (putG (yk, ⟨ykk, yki, ykt⟩) (mdG (l.take k))).length c3)).setCell ⟨w.heap.size + 1, 1, none⟩ (.slice none 0 0)) := ((Kept.refl (fun k => k = w.heap.size + 1) w3).setCell (p := ⟨w.heap.size + 1, 0, none⟩) (fun _ => rfl) _).setCell (p := ⟨w.heap.size + 1, 1, none⟩) (fun _ => rfl) _
          have hz := hp_lt H2.out.2.1
          have ho := ownsRow_kept H3.out.1 K (fun q hq e => by have h5 := (H3.out.1.lt q hq).1; have h6 : w2.drew.heap.size = w2.heap.size := rfl; omega)
          refine ⟨a3, c3, hpk H3.out.2.2.1 K (by omega), set2f H3.out.2.2.2 _ _, owns_mono ho (by have h6 : w2.drew.heap.size = w2.heap.size := rfl; omega), H3.out.2.1.trans (K.below H3.out.2.1.size (fun k hk e => by omega))⟩
        have HF := hid hF
        clear hF
        go_roundw
        case rel => first | exact ⟨k + 1, by omega, by omega, by go_num, HF⟩ | ((repeat apply Exists.intro); exact ⟨⟨k + 1, by omega, by omega, by go_num, HF⟩, rfl⟩)
        case measure => simp [intOf]; omega
    · have HGL := hid HGG.out
      rw [show l.take k = l.take 400 by
        by_cases h4 : k < 400
        · rw [List.take_of_length_le (by omega), List.take_of_length_le (by omega)]
        · rw [show k = 400 by omega]] at HGL
      by_cases hc1 : k < l.length
      · have i1 : (k : Int) < (l.length : Int) := by omega
        have i2 : ¬ (k : Int) < 400 := by omega
        go_wp2_with fail
        refine bodyPost_ret (ret33 Tryz.results9 rfl (set2f HGG.out.1 _ _)) rfl ?_
        have K : Kept (fun k => k = w.heap.size) wr ((wr.setCell ⟨w.heap.size, 0, none⟩ (.slice a N c)).setCell ⟨w.heap.size, 1, none⟩ (.slice none 0 0)) := ((Kept.refl (fun k => k = w.heap.size) wr).setCell (p := ⟨w.heap.size, 0, none⟩) (fun _ => rfl) _).setCell (p := ⟨w.heap.size, 1, none⟩) (fun _ => rfl) _
        obtain ⟨-, -, ro, rb, hN⟩ := HGL.out
        rw [← HR.out.2.2.2.2] at ro hN
        have ho := owns_mono (ownsRow_kept ro K (fun q hq e => by have h5 := (ro.lt q hq).1; omega)) (Nat.zero_le _)
        rw [hN] at ho K ⊢
        exact ⟨a, c, rfl, ho, rb.trans (K.below rb.size (fun k hk e => by omega))⟩
      · have i1 : ¬ (k : Int) < (l.length : Int) := by omega
        go_wp2_with fail
        refine bodyPost_ret (ret33 Tryz.results9 rfl (set2f HGG.out.1 _ _)) rfl ?_
        have K : Kept (fun k => k = w.heap.size) wr ((wr.setCell ⟨w.heap.size, 0, none⟩ (.slice a N c)).setCell ⟨w.heap.size, 1, none⟩ (.slice none 0 0)) := ((Kept.refl (fun k => k = w.heap.size) wr).setCell (p := ⟨w.heap.size, 0, none⟩) (fun _ => rfl) _).setCell (p := ⟨w.heap.size, 1, none⟩) (fun _ => rfl) _
        obtain ⟨-, -, ro, rb, hN⟩ := HGL.out
        rw [← HR.out.2.2.2.2] at ro hN
        have ho := owns_mono (ownsRow_kept ro K (fun q hq e => by have h5 := (ro.lt q hq).1; omega)) (Nat.zero_le _)
        rw [hN] at ho K ⊢
        exact ⟨a, c, rfl, ho, rb.trans (K.below rb.size (fun k hk e => by omega))⟩

end Go.Proofs.YthcoigbkdbkojaaGreat

namespace Go.Proofs.YthcoigbkdbkojaaGreat.V
open Go.RowKit

/-- The next one: at or above from, then above the last one. -/
def nx (st : Bool) (last : ByteArray) (l : List En) : Option En := if st then gtrE last l else geqE last l
def lst (last : ByteArray) : Option En → ByteArray
  | none => last
  | some e => e.2.1

/-- A step function's boxes. -/
structure SB (w : World) (gf gl gt : Nat) (o : Option Addr) (st : Bool) (last : ByteArray) : Prop where
  f : w.heap[gf]? = some (.cells #[.func (.func (if st then 177 else 113)) #[.pointer o] #[]] 143 (0, 0))
  l : Bx w gl last
  t : w.heap[gt]? = some (.cells #[.pointer o] 141 (0, 0))

theorem nx_mem {st : Bool} {last : ByteArray} {l : List En} {e : En} (h : nx st last l = some e) : e ∈ l := by
  unfold nx at h
  split at h
  · exact gtr_mem h
  · exact geq_mem h

set_option maxRecDepth 100000 in
set_option maxHeartbeats 2000000 in
theorem step_any (gf gl gt : Nat) (o : Option Addr) (st : Bool) (last : ByteArray) (t : Tr) (w : World) (ht : TO w o t) (hs : SB w gf gl gt o st last) :
    Calls Tryz.prog 176 #[.pointer (some ⟨gf, 0, none⟩), .pointer (some ⟨gl, 0, none⟩), .pointer (some ⟨gt, 0, none⟩)] w fun x w' => x = .returned (optP (nx st last t.toL)) ∧ SB w' gf gl gt o true (lst last (nx st last t.toL)) ∧ Kept (fun k => k = gf ∨ k = gl) w w' := by
  have hmf : ∀ (fn : Fn) (first cap : Array Value) (w : World), (Instr.makeFunc fn first cap).run Tryz.prog w = .ok (.func fn first cap) w := fun _ _ _ _ => rfl
  have n1 : gf ≠ gl := by intro e; subst e; have := hs.f; rw [hs.l] at this; cases this
  have n2 : gf ≠ gt := by intro e; subst e; have := hs.f; rw [hs.t] at this; cases this
  have n3 : gl ≠ gt := by intro e; subst e; have := hs.l; rw [Bx, hs.t] at this; cases this
  have n1' : gl ≠ gf := fun e => n1 e.symm
  have hM := fun (e : En) (he : e ∈ t.toL) => ht.at_.mem e.1 e.2.1 e.2.2 he
  have l1 := hp_lt hs.f
  have l2 := hp_lt hs.l
  have l3 := hp_lt hs.t
  have FIN := hid (show ∀ w1, Below w.heap.size w w1 → ∀ q : Option En, SB ((w1.setCell ⟨gf, 0, none⟩ (.func (.func 177) #[.pointer o] #[])).setCell ⟨gl, 0, none⟩ (.string (lst last q))) gf gl gt o true (lst last q) ∧ Kept (fun k => k = gf ∨ k = gl) w ((w1.setCell ⟨gf, 0, none⟩ (.func (.func 177) #[.pointer o] #[])).setCell ⟨gl, 0, none⟩ (.string (lst last q))) from fun w1 hb q => by
    refine ⟨⟨?_, ?_, ?_⟩, (((Kept.ofBelow hb).mono (fun _ _ h => h.elim)).setCell (p := ⟨gf, 0, none⟩) (fun _ => .inl rfl) _).setCell (p := ⟨gl, 0, none⟩) (fun _ => .inr rfl) _⟩
    · exact hp_set (set_block (i := 0) (hp_below hs.f hb l1) _) n1 _
    · exact set_block (i := 0) (hp_set (hp_below hs.l hb l2) n1' _) _
    · exact hp_set (hp_set (hp_below hs.t hb l3) (fun e => n2 e.symm) _) (fun e => n3 e.symm) _)
  have FIN0 := hid (show ∀ w1, Below w.heap.size w w1 → SB (w1.setCell ⟨gf, 0, none⟩ (.func (.func 177) #[.pointer o] #[])) gf gl gt o true last ∧ Kept (fun k => k = gf ∨ k = gl) w (w1.setCell ⟨gf, 0, none⟩ (.func (.func 177) #[.pointer o] #[])) from fun w1 hb => by
    refine ⟨⟨?_, ?_, ?_⟩, ((Kept.ofBelow hb).mono (fun _ _ h => h.elim)).setCell (p := ⟨gf, 0, none⟩) (fun _ => .inl rfl) _⟩
    · exact set_block (i := 0) (hp_below hs.f hb l1) _
    · exact hp_set (hp_below hs.l hb l2) n1' _
    · exact hp_set (hp_below hs.t hb l3) (fun e => n2 e.symm) _)
  have c0 := cells1 hs.f
  have c1 := cells1 hs.l
  have c2 := cells1 hs.t
  have HC := hid (show ∀ w1, Below w.heap.size w w1 → w1.cell? ⟨gf, 0, none⟩ = w.cell? ⟨gf, 0, none⟩ ∧ (∀ j, w1.frozen? ⟨gf, j, none⟩ = false) ∧ w1.cell? ⟨gl, 0, none⟩ = some (.string last) ∧ (∀ j, w1.frozen? ⟨gl, j, none⟩ = false) ∧ w1.cell? ⟨gt, 0, none⟩ = some (.pointer o) from fun w1 hb =>
    ⟨hb.cell (p := ⟨gf, 0, none⟩) l1, fun j => free_of_block (hp_below hs.f hb l1), (hb.cell (p := ⟨gl, 0, none⟩) l2).trans c1, fun j => free_of_block (hp_below hs.l hb l2), (hb.cell (p := ⟨gt, 0, none⟩) l3).trans c2⟩)
  cases st
  · have G := hid (geq_any o last t w ht)
    have e : nx false last t.toL = geqE last t.toL := rfl
    rw [e]
    have c0' : w.cell? ⟨gf, 0, none⟩ = some (.func (.func 113) #[.pointer o] #[]) := c0
    cases hq : geqE last t.toL with
    | none =>
      have G2 := hid (hq ▸ G.out)
      clear hs ht G hq hM c0 e
      go_enter Tryz.func176, Tryz.ntmps176
      go_wp2_with (
        go_at_call 113
        refine G2.out.mono ?_
        rintro e w1 ⟨e1, hb⟩
        have e2 : e = .returned (.pointer none) := e1
        subst e2
        obtain ⟨z0, z1, z2, z3, z4⟩ := HC.out w1 hb
        rw [c0'] at z0
        have HB := hid hb
        clear hb e1)
      go_ret
      exact ⟨rfl, FIN0.out w1 HB.out⟩
    | some c =>
      obtain ⟨b, k, v⟩ := c
      have G2 := hid (hq ▸ G.out)
      obtain ⟨p', q', h', nd⟩ := hM (b, k, v) (geq_mem hq)
      have d0 := (cells5 nd).1
      have hbl := hp_lt nd
      have nb : b ≠ gf := by intro e; subst e; have := hs.f; rw [nd] at this; cases this
      have nb' : gf ≠ b := fun e => nb e.symm
      clear hs ht G hq hM c0 e nd
      go_enter Tryz.func176, Tryz.ntmps176
      go_wp2_with (
        go_at_call 113
        refine G2.out.mono ?_
        rintro e w1 ⟨e1, hb⟩
        have e2 : e = .returned (.pointer (some ⟨b, 0, none⟩)) := e1
        subst e2
        obtain ⟨z0, z1, z2, z3, z4⟩ := HC.out w1 hb
        rw [c0'] at z0
        have x0 := (hb.cell (p := ⟨b, 0, none⟩) hbl).trans d0
        have HB := hid hb
        clear hb e1)
      go_ret
      exact ⟨rfl, FIN.out w1 HB.out (some (b, k, v))⟩
  · have G := hid (gtr_any o last t w ht)
    have e : nx true last t.toL = gtrE last t.toL := rfl
    rw [e]
    have c0' : w.cell? ⟨gf, 0, none⟩ = some (.func (.func 177) #[.pointer o] #[]) := c0
    cases hq : gtrE last t.toL with
    | none =>
      have G2 := hid (hq ▸ G.out)
      clear hs ht G hq hM c0 e
      go_enter Tryz.func176, Tryz.ntmps176
      go_wp2_with (
        go_at_call 177
        refine G2.out.mono ?_
        rintro e w1 ⟨e1, hb⟩
        have e2 : e = .returned (.pointer none) := e1
        subst e2
        obtain ⟨z0, z1, z2, z3, z4⟩ := HC.out w1 hb
        rw [c0'] at z0
        have HB := hid hb
        clear hb e1)
      go_ret
      exact ⟨rfl, FIN0.out w1 HB.out⟩
    | some c =>
      obtain ⟨b, k, v⟩ := c
      have G2 := hid (hq ▸ G.out)
      obtain ⟨p', q', h', nd⟩ := hM (b, k, v) (gtr_mem hq)
      have d0 := (cells5 nd).1
      have hbl := hp_lt nd
      have nb : b ≠ gf := by intro e; subst e; have := hs.f; rw [nd] at this; cases this
      have nb' : gf ≠ b := fun e => nb e.symm
      clear hs ht G hq hM c0 e nd
      go_enter Tryz.func176, Tryz.ntmps176
      go_wp2_with (
        go_at_call 177
        refine G2.out.mono ?_
        rintro e w1 ⟨e1, hb⟩
        have e2 : e = .returned (.pointer (some ⟨b, 0, none⟩)) := e1
        subst e2
        obtain ⟨z0, z1, z2, z3, z4⟩ := HC.out w1 hb
        rw [c0'] at z0
        have x0 := (hb.cell (p := ⟨b, 0, none⟩) hbl).trans d0
        have HB := hid hb
        clear hb e1)
      go_ret
      exact ⟨rfl, FIN.out w1 HB.out (some (b, k, v))⟩

theorem two' (w : World) (a b : Obj) : ((w.alloc a).alloc b).heap[w.heap.size]? = some a ∧ ((w.alloc a).alloc b).heap[w.heap.size + 1]? = some b ∧ Below w.heap.size w ((w.alloc a).alloc b) := by
  refine ⟨hp_alloc (hp_new w a) b, ?_, (below_new w a).alloc (by simp) b⟩
  have := hp_new (w.alloc a) b
  simpa using this
theorem three (w : World) (a b c : Obj) : (((w.alloc a).alloc b).alloc c).heap[w.heap.size]? = some a ∧ (((w.alloc a).alloc b).alloc c).heap[w.heap.size + 1]? = some b ∧ (((w.alloc a).alloc b).alloc c).heap[w.heap.size + 1 + 1]? = some c ∧ Below w.heap.size w (((w.alloc a).alloc b).alloc c) := by
  obtain ⟨h1, h2, h3⟩ := two' w a b
  refine ⟨hp_alloc h1 c, hp_alloc h2 c, ?_, h3.alloc (by simp; omega) c⟩
  have := hp_new ((w.alloc a).alloc b) c
  simpa using this

set_option maxRecDepth 100000 in
set_option maxHeartbeats 2000000 in
theorem steps_any (o : Option Addr) (first : ByteArray) (w : World) :
    Calls Tryz.prog 148 #[.pointer o, .string first] w fun x w' => ∃ gf gl gt, x = .returned (.func (.func 176) #[] #[.pointer (some ⟨gf, 0, none⟩), .pointer (some ⟨gl, 0, none⟩), .pointer (some ⟨gt, 0, none⟩)]) ∧ SB w' gf gl gt o false first ∧ Below w.heap.size w w' ∧ w.heap.size ≤ gf ∧ w.heap.size ≤ gl ∧ w.heap.size ≤ gt := by
  have hmf : ∀ (fn : Fn) (first cap : Array Value) (w : World), (Instr.makeFunc fn first cap).run Tryz.prog w = .ok (.func fn first cap) w := fun _ _ _ _ => rfl
  go_enter Tryz.func148, Tryz.ntmps148
  go_wp2
  go_region
  · obtain ⟨e1, e2, e3, hb⟩ := three w (Obj.cells #[Value.pointer o] 141) (Obj.cells #[Value.string first] 9) (Obj.cells #[Value.func (Fn.func 113) #[Value.pointer o] #[]] 143)
    have HH := hid (And.intro e1 (And.intro e2 (And.intro e3 hb)))
    generalize (((w.alloc (Obj.cells #[Value.pointer o] 141)).alloc (Obj.cells #[Value.string first] 9)).alloc (Obj.cells #[Value.func (Fn.func 113) #[Value.pointer o] #[]] 143)) = W at HH ⊢
    clear e1 e2 e3 hb
    go_wp2
    go_ret
    obtain ⟨e1, e2, e3, hb⟩ := HH.out
    exact ⟨_, _, _, rfl, ⟨e3, e2, e1⟩, hb.drew, by omega, by omega, by omega⟩
  · obtain ⟨e1, e2, e3, hb⟩ := three w (Obj.cells #[Value.pointer o] 141) (Obj.cells #[Value.func (Fn.func 113) #[Value.pointer o] #[]] 143) (Obj.cells #[Value.string first] 9)
    have HH := hid (And.intro e1 (And.intro e2 (And.intro e3 hb)))
    generalize (((w.alloc (Obj.cells #[Value.pointer o] 141)).alloc (Obj.cells #[Value.func (Fn.func 113) #[Value.pointer o] #[]] 143)).alloc (Obj.cells #[Value.string first] 9)) = W at HH ⊢
    clear e1 e2 e3 hb
    go_wp2
    go_ret
    obtain ⟨e1, e2, e3, hb⟩ := HH.out
    exact ⟨_, _, _, rfl, ⟨e2, e3, e1⟩, hb.drew, by omega, by omega, by omega⟩

/-- An iterator's boxes. -/
structure It (w : World) (g1 g2 g3 : Nat) (o : Option Addr) (frm to : ByteArray) : Prop where
  t : w.heap[g1]? = some (.cells #[.pointer o] 141 (0, 0))
  f : Bx w g2 frm
  e : Bx w g3 to

abbrev itV (g1 g2 g3 : Nat) : Value := .func (.func 147) #[] #[.pointer (some ⟨g1, 0, none⟩), .pointer (some ⟨g2, 0, none⟩), .pointer (some ⟨g3, 0, none⟩)]

set_option maxRecDepth 100000 in
set_option maxHeartbeats 2000000 in
theorem range_any (o : Option Addr) (frm to : ByteArray) (w : World) (h1 : frm.size ≤ 281474976710656) (h2 : to.size ≤ 281474976710656) :
    Calls Tryz.prog 112 #[.pointer o, .string frm, .string to] w fun x w' => ∃ g1 g2 g3, x = .returned (itV g1 g2 g3) ∧ It w' g1 g2 g3 o frm to ∧ Below w.heap.size w w' ∧ w.heap.size ≤ g1 ∧ w.heap.size ≤ g2 ∧ w.heap.size ≤ g3 := by
  have hmf : ∀ (fn : Fn) (first cap : Array Value) (w : World), (Instr.makeFunc fn first cap).run Tryz.prog w = .ok (.func fn first cap) w := fun _ _ _ _ => rfl
  have C1 := hid (fun W => clone_any frm W h1)
  have C2 := hid (fun W => clone_any to W h2)
  clear h1 h2
  go_enter Tryz.func112, Tryz.ntmps112
  go_wp2_with (first
    | (go_at_call 70
       refine (C1.out (w.alloc (.cells #[.pointer o] 141))).mono ?_
       rintro e w1 ⟨rfl, hb⟩
       have H1 := hid hb
       clear hb C1)
    | (go_at_call 70
       refine (C2.out w1).mono ?_
       rintro e w2 ⟨rfl, hb⟩
       have H2 := hid hb
       clear hb C2))
  go_ret
  have b1 := below_on (below_new w (.cells #[.pointer o] 141)) H1.out
  have b2 := below_on b1 H2.out
  obtain ⟨e1, e2, hb⟩ := two' w2 (Obj.cells #[Value.string frm] 9) (Obj.cells #[Value.string to] 9)
  have hs := b2.size
  refine ⟨_, _, _, rfl, ⟨?_, e1, e2⟩, below_on b2 hb, Nat.le_refl _, by omega, by omega⟩
  have t1 := hp_new w (.cells #[.pointer o] 141)
  have t2 := hp_below t1 H1.out (hp_lt t1)
  have t3 := hp_below t2 H2.out (hp_lt t2)
  exact hp_below t3 hb (hp_lt t3)

end Go.Proofs.YthcoigbkdbkojaaGreat.V
