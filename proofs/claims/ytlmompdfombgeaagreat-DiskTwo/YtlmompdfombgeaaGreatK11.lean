import Derived.Test.YtlmompdfombgeaaGreatK10
import Derived.Test.YtlmompdfombgeaaGreatK06
import Derived.Test.YtlmompdfombgeaaGreatK09
namespace Go.Proofs.YtlmompdfombgeaaGreat
open Go.RowKit Go.MapKept

theorem puts_two (w : World) (o o' i : Obj) : puts ((w.alloc o).alloc i) w.heap.size o' = (w.alloc o').alloc i := by
  have h : ((w.heap.push o).push i).setIfInBounds w.heap.size o' = (w.heap.push o').push i := by
    apply Array.toList_inj.1
    simp
  show ({ (w.alloc o).alloc i with heap := ((w.heap.push o).push i).setIfInBounds w.heap.size o' } : World) = _
  rw [h]
  rfl

theorem Kept.drewQ {S : Nat → Prop} {a w : World} (h : Kept S a w) (n : Nat) : Kept S a (w.drewN n) := ⟨h.os, h.tape, h.output, h.size, h.block⟩

theorem alloc_drewN (w : World) (o : Obj) (m q : Nat) : ((w.drewN m).alloc o).drewN q = (w.drewN (m + q)).alloc o := by
  show ((w.drewN m).drewN q).alloc o = _
  rw [World.drewN_drewN]

theorem perm_without (e : MapEntry) : ∀ l : List MapEntry, (l.map MapEntry.born).Nodup → e ∈ l → l.Perm (e :: l.filter (fun x => !(x.born == e.born)))
  | [], _, h => by simp at h
  | x :: l, hn, h => by
    rw [List.map_cons, List.nodup_cons] at hn
    rcases List.mem_cons.1 h with rfl | h
    · have hne : ∀ y ∈ l, y.born ≠ e.born := fun y hy hb => hn.1 (List.mem_map.2 ⟨y, hy, hb⟩)
      rw [List.filter_cons, if_neg (by simp), sumE_filter_none (fun _ => 0) e.born l hne]
    · have hxe : x.born ≠ e.born := fun hb => hn.1 (List.mem_map.2 ⟨e, h, hb.symm⟩)
      rw [List.filter_cons, if_pos (by simpa using hxe)]
      exact ((perm_without e l hn.2 h).cons x).trans (List.Perm.swap e x _)

theorem lookup_none_of {κ : Type} [DecidableEq κ] {k : κ} : ∀ {kv : List (κ × Value)}, k ∉ kv.map Prod.fst → kv.lookup k = none
  | [], _ => rfl
  | x :: kv, h => by
    simp at h
    rw [List.lookup_cons, show (k == x.1) = false by simpa using fun e => h.1 (by rw [e])]
    exact lookup_none_of (by simpa using h.2)

/-- The number that a value is. -/
def iv : Value → Int | .int _ n => n | _ => 0

/-- What the living files say of a name's number. -/
def lvOf (lv : List (Int × Value)) (x : ByteArray × Value) : Int × Value := (iv x.2, (lv.lookup (iv x.2)).getD (.pointer none))

/-- The same, of an entry. -/
def lvE (lv : List (Int × Value)) (e : MapEntry) : Int × Value := (iv e.val, (lv.lookup (iv e.val)).getD (.pointer none))

theorem lvE_map {w : World} {N c : Nat} {nv : List (ByteArray × Value)} {es : Array MapEntry} (h : MG KS w N nv es c) (lv : List (Int × Value)) : es.toList.map (lvE lv) = nv.map (lvOf lv) := by
  have e1 : es.toList.map (lvE lv) = (es.toList.map (fun e => (e.key, e.val))).map (fun x => (iv x.2, (lv.lookup (iv x.2)).getD (.pointer none))) := by simp [lvE, Function.comp_def]
  rw [e1, h.kvs]
  simp [lvOf, Function.comp_def]

theorem zero100 (w : World) : (zeroValue 100).run Tryz.prog w = .ok (.pointer none) w := by kernel_rfl

set_option maxRecDepth 100000 in
set_option maxHeartbeats 1600000 in
theorem reached_any (d L N cL cN : Nat) (lv : List (Int × Value)) (nv : List (ByteArray × Value)) (esL esN : Array MapEntry) (w : World) (c2 : w.cell? ⟨d, 2, none⟩ = some (.map (some L))) (hL : MG KI w L lv esL cL) (hN : MG KS w N nv esN cN) (hint : ∀ x ∈ nv, x.2 = .int .i64 (iv x.2)) (hnd : (nv.map (fun x => iv x.2)).Nodup) :
    Calls Tryz.prog 91 #[.pointer (some ⟨d, 0, none⟩), .map (some N)] w fun x w' => x = .returned (.map (some w.heap.size)) ∧ (∃ kv es c, MG KI w' w.heap.size kv es c ∧ kv.Perm (nv.map (lvOf lv))) ∧ Below w.heap.size w w' := by
  have hmm := @run_makeMap Tryz.prog
  have hr := run_range_map (P := Tryz.prog) (w.alloc (.map #[] 0)) 47 9 3 N _ cN Tryz.underlying47 (hp_alloc hN.blk _)
  have hdl := World.block_lt_of_cell? _ _ c2
  have es0 : (w.alloc (.map #[] 0)).heap.size = w.heap.size + 1 := by simp
  rw [es0] at hr
  clear es0
  have HX := hid (And.intro hL (And.intro hN (And.intro hint hnd)))
  clear hL hN hint hnd
  go_enter Tryz.func91, Tryz.ntmps91
  go_wp2
  go_loopw [7] (fun _ wr => ∃ (seen : Array Nat) (m : Nat) (kv : List (Int × Value)) (es : Array MapEntry) (c : Nat), wr = ((w.drewN m).alloc (.map es c)).alloc (.mapIter (some N) cN seen cN) ∧ Hid (MG KI ((w.drewN m).alloc (.map es c)) w.heap.size kv es c ∧ (kv ++ (leftOf esN seen).toList.map (lvE lv)).Perm (esN.toList.map (lvE lv)))) (fun _ wr => (leftOf esN (seenOf wr (w.heap.size + 1))).size)
  case atStart => exact ⟨#[], 0, [], #[], 0, rfl, hid ⟨⟨hp_new _ _, by simp, by simp, by simp, by simp⟩, by rw [left_zero]; simp⟩⟩
  case round =>
    obtain ⟨seen, m, kv, es, c, rfl, HR⟩ := hrel
    obtain ⟨hL, hN, hint, hnd⟩ := HX.out
    obtain ⟨hM, hperm⟩ := HR.out
    have hNb : ((w.drewN m).alloc (.map es c)).heap[N]? = some (.map esN cN) := hp_alloc (show (w.drewN m).heap[N]? = _ from hN.blk) _
    rcases next_any ((w.drewN m).alloc (.map es c)) 0 N cN seen esN hNb hN.hold with ⟨hz, hx⟩ | ⟨e, he, q, hx⟩
    · have es1 : ((w.drewN m).alloc (.map es c)).heap.size = w.heap.size + 1 := by simp
      rw [es1] at hx
      have hl0 : (leftOf esN seen).toList = [] := by
        have : leftOf esN seen = #[] := Array.eq_empty_of_size_eq_zero hz
        simp [this]
      have hfin : kv.Perm (nv.map (lvOf lv)) := by
        rw [hl0] at hperm
        simp only [List.map_nil, List.append_nil] at hperm
        rw [lvE_map hN lv] at hperm
        exact hperm
      have HF := hid (And.intro hM hfin)
      clear hL hN hint hnd hM hperm hNb hz hl0 hfin es1
      go_wp2
      go_ret
      obtain ⟨hM, hfin⟩ := HF.out
      exact ⟨rfl, ⟨kv, es, c, hM.below ((Below.refl _ _).alloc (Nat.le_refl _) _), hfin⟩, ((below_drewN (Below.refl _ w) m).alloc (Nat.le_refl _) _).alloc (by simp) _⟩
    · have es1 : ((w.drewN m).alloc (.map es c)).heap.size = w.heap.size + 1 := by simp
      rw [es1, alloc_drewN] at hx
      have hes : e ∈ esN.toList := by simp [leftOf] at he ⊢; exact he.1
      have hmk : (e.key, e.val) ∈ nv.map (fun x => (KS.enc x.1, x.2)) := by
        rw [← hN.kvs]
        exact List.mem_map.2 ⟨e, hes, rfl⟩
      obtain ⟨x, hxm, hxe⟩ := List.mem_map.1 hmk
      injection hxe with hxk hxv
      have hev : e.val = .int .i64 (iv e.val) := by rw [← hxv]; exact hint x hxm
      have hen := run_entry_map (P := Tryz.prog) ((w.drewN (m + q)).alloc (.map es c)) N cN seen esN cN e (hp_alloc (show (w.drewN (m + q)).heap[N]? = _ from hN.blk) _) hes hN.nd
      have es2 : ((w.drewN (m + q)).alloc (.map es c)).heap.size = w.heap.size + 1 := by simp
      rw [es2] at hen
      obtain ⟨n, hn⟩ : ∃ n, n = iv e.val := ⟨_, rfl⟩
      rw [← hn] at hev
      rw [hev] at hx hen
      have hlk := (hL.kept (w' := ((w.drewN (m + q)).alloc (.map es c)).alloc (.mapIter (some N) cN (seen.push e.born) cN)) (S := fun _ => False) ((((Kept.refl (fun _ => False) w).drewQ (m + q)).alloc _).alloc _) (fun e => e)).look Tryz.underlying46 (show Tryz.prog.underlying 3 = some KI.d from Tryz.underlying3) (zero100 _) n false
      simp only [Bool.false_eq_true, if_false] at hlk
      replace hlk : (Instr.lookup 46 (.map (some L)) (.int .i64 n) false).run Tryz.prog (((w.drewN (m + q)).alloc (.map es c)).alloc (.mapIter (some N) cN (seen.push e.born) cN)) = .ok ((lv.lookup n).getD (.pointer none)) (((w.drewN (m + q)).alloc (.map es c)).alloc (.mapIter (some N) cN (seen.push e.born) cN)) := hlk
      -- the key is new
      have hpe : (leftOf esN seen).toList.Perm (e :: (leftOf esN (seen.push e.born)).toList) := by
        rw [left_push]
        exact perm_without e _ (by
          simp only [leftOf, Array.toList_filter]
          exact (List.Sublist.map _ (List.filter_sublist)).nodup hN.nd) he
      have hperm2 : (kv ++ [lvE lv e] ++ (leftOf esN (seen.push e.born)).toList.map (lvE lv)).Perm (esN.toList.map (lvE lv)) := by
        refine List.Perm.trans ?_ hperm
        rw [List.append_assoc]
        exact List.Perm.append_left kv (by simpa using (hpe.map (lvE lv)).symm)
      have hnk : kv.lookup n = none := by
        have hnd2 : ((esN.toList.map (lvE lv)).map Prod.fst).Nodup := by
          rw [lvE_map hN lv]
          simpa [lvOf, Function.comp_def] using hnd
        have h3 := (hperm2.map Prod.fst).nodup_iff.2 hnd2
        rw [List.map_append, List.map_append, List.nodup_append] at h3
        have h4 := h3.1
        rw [List.nodup_append] at h4
        apply lookup_none_of
        intro hm
        exact h4.2.2 n hm n (by simp [lvE, hn]) rfl
      have hM' : MG KI (((w.drewN (m + q)).alloc (.map es c)).alloc (.mapIter (some N) cN (seen.push e.born) cN)) w.heap.size kv es c := ⟨hp_alloc (hp_new (w.drewN (m + q)) _) _, hM.hold, hM.nd, hM.kvs, hM.keys⟩
      have hu := upd_new Tryz.underlying46 Tryz.underlying3 hM'.blk (key_int n) ((lv.lookup n).getD (.pointer none)) (hM'.noKey n hnk)
      rw [show w.heap.size = (w.drewN (m + q)).heap.size from rfl, puts_two] at hu
      replace hu : (Instr.mapUpdate 46 (.map (some w.heap.size)) (.int .i64 n) ((lv.lookup n).getD (.pointer none))).run Tryz.prog (((w.drewN (m + q)).alloc (.map es c)).alloc (.mapIter (some N) cN (seen.push e.born) cN)) = .ok () (((w.drewN (m + q)).alloc (.map (es.push { key := .int .i64 n, val := (lv.lookup n).getD (.pointer none), born := c }) (c + 1))).alloc (.mapIter (some N) cN (seen.push e.born) cN)) := hu
      have hM2 : MG KI ((w.drewN (m + q)).alloc (.map (es.push { key := .int .i64 n, val := (lv.lookup n).getD (.pointer none), born := c }) (c + 1))) w.heap.size (kv ++ [(n, (lv.lookup n).getD (.pointer none))]) (es.push { key := .int .i64 n, val := (lv.lookup n).getD (.pointer none), born := c }) (c + 1) := hM.push n _ hnk (hp_new (w.drewN (m + q)) _)
      have hle : lvE lv e = (n, (lv.lookup n).getD (.pointer none)) := by simp [lvE, hn]
      rw [hle] at hperm2
      have hlt : (leftOf esN (seen.push e.born)).size < (leftOf esN seen).size := by
        have e1 : (leftOf esN (seen.push e.born)).size = (leftOf esN (seen.push e.born)).toList.length := by simp
        have e2 : (leftOf esN seen).size = (leftOf esN seen).toList.length := by simp
        rw [e1, e2, hpe.length_eq]
        simp
      obtain ⟨V, hV⟩ : ∃ V, V = (lv.lookup n).getD (.pointer none) := ⟨_, rfl⟩
      rw [← hV] at hlk hu hM2 hperm2
      have HF := hid (And.intro hM2 (And.intro hperm2 hlt))
      have c2' : (((w.drewN (m + q)).alloc (.map es c)).alloc (.mapIter (some N) cN (seen.push e.born) cN)).cell? ⟨d, 2, none⟩ = some (.map (some L)) := (((((Kept.refl (fun _ => False) w).drewQ (m + q)).alloc _).alloc _)).cell c2 (fun e => e)
      clear hL hN hint hnd hM hperm hNb es1 es2 hes hmk hxm hxk hxv hev hn hpe hperm2 hnk hM' hM2 hle hlt hV he
      go_wp2
      go_roundw
      case rel => exact ⟨seen.push e.born, m + q, _, _, _, rfl, hid ⟨HF.out.1, HF.out.2.1⟩⟩
      case measure =>
        have e1 : ∀ (k : Nat) (o : Obj) (s : Array Nat), seenOf (((w.drewN k).alloc o).alloc (.mapIter (some N) cN s cN)) (w.heap.size + 1) = s := by
          intro k o s
          have := hp_new ((w.drewN k).alloc o) (.mapIter (some N) cN s cN)
          have e2 : ((w.drewN k).alloc o).heap.size = w.heap.size + 1 := by simp
          rw [e2] at this
          unfold seenOf
          rw [this]
        rw [e1, e1]
        exact HF.out.2.2

end Go.Proofs.YtlmompdfombgeaaGreat

namespace Go.Proofs.YtlmompdfombgeaaGreat
open Go.RowKit Go.MapKept

set_option maxRecDepth 100000 in
set_option maxHeartbeats 1000000 in
theorem count_st (d : Nat) (fs : List (Int × Int)) (w : World) (room limit : Int) (L : Value) (made : Int) (N F vn : Value) (st : Int) (k1 : Value) (rd : Int) (k2 : Value) (hd : DiskB w d room limit L made N F vn false st k1 rd k2) (hk : KF w k1 fs) (hn0 : 0 ≤ st) (hn : st ≤ 1000000000) :
    Calls Tryz.prog 70 #[.pointer (some ⟨d, 0, none⟩), .pointer (some ⟨d, 8, none⟩)] w fun x w' => x = .returned (.int .i64 (fe (fo fs (st + 1)))) ∧ DiskB w' d room limit L made N F vn (decide (fo fs (st + 1) = 1)) (st + 1) k1 rd k2 ∧ Kept (fun k => k = d) w w' := by
  obtain ⟨-, -, -, -, -, -, -, c7, c8, c9, c10, c11⟩ := hd.cells
  have ff := hd.free
  have hmp : ∀ b es c, w.heap[b]? = some (.map es c) → ¬ b = d := fun b es c hb e => by subst e; exact hp_ne hd hb (by simp) rfl
  have hk2 : KF (w.setCell ⟨d, 8, none⟩ (.int .i64 (st + 1))) k1 fs := hk.kept (S := fun k => k = d) ((Kept.refl (fun k => k = d) w).setCell (p := ⟨d, 8, none⟩) (fun _ => rfl) _) hmp
  have hl : ∀ m, (Instr.lookup 49 k1 (.int .i64 (st + 1)) false).run Tryz.prog ((w.setCell ⟨d, 8, none⟩ (.int .i64 (st + 1))).drewN m) = .ok (.int .i64 (fo fs (st + 1))) ((w.setCell ⟨d, 8, none⟩ (.int .i64 (st + 1))).drewN m) := fun m => KF.look (w := (w.setCell ⟨d, 8, none⟩ (.int .i64 (st + 1))).drewN m) hk2 _
  have hr := fo_range fs (st + 1)
  obtain ⟨q, hq⟩ : ∃ q, q = fo fs (st + 1) := ⟨_, rfl⟩
  rw [← hq] at hr ⊢
  simp only [← hq] at hl
  have fin : ∀ nq, DiskB ((w.setCell ⟨d, 8, none⟩ (.int .i64 (st + 1))).drewN nq) d room limit L made N F vn false (st + 1) k1 rd k2 ∧ Kept (fun k => k = d) w ((w.setCell ⟨d, 8, none⟩ (.int .i64 (st + 1))).drewN nq) := fun nq =>
    ⟨set_block (i := 8) hd _, ((Kept.refl (fun k => k = d) w).setCell (p := ⟨d, 8, none⟩) (fun _ => rfl) _).drewN nq⟩
  have fin1 : ∀ nq, DiskB (((w.setCell ⟨d, 8, none⟩ (.int .i64 (st + 1))).setCell ⟨d, 7, none⟩ (.bool true)).drewN nq) d room limit L made N F vn true (st + 1) k1 rd k2 ∧ Kept (fun k => k = d) w (((w.setCell ⟨d, 8, none⟩ (.int .i64 (st + 1))).setCell ⟨d, 7, none⟩ (.bool true)).drewN nq) := fun nq =>
    ⟨set_block (i := 7) (set_block (i := 8) hd _) _, (((Kept.refl (fun k => k = d) w).setCell (p := ⟨d, 8, none⟩) (fun _ => rfl) _).setCell (p := ⟨d, 7, none⟩) (fun _ => rfl) _).drewN nq⟩
  have F0 := hid fin
  have F1 := hid fin1
  clear hq hd hk hk2 hmp fin fin1
  have hcase : q = 0 ∨ q = 1 ∨ q = 2 ∨ q = 3 := by omega
  clear hr
  rcases hcase with rfl | rfl | rfl | rfl
  · go_enter Tryz.func70, Tryz.ntmps70
    go_wp2
    go_quiet (fail)
    go_wp2
    go_ret
    exact ⟨rfl, F0.out _⟩
  · go_enter Tryz.func70, Tryz.ntmps70
    go_wp2
    go_quiet (fail)
    go_wp2
    go_ret
    exact ⟨rfl, F1.out _⟩
  · go_enter Tryz.func70, Tryz.ntmps70
    go_wp2
    go_quiet (fail)
    go_wp2
    go_ret
    exact ⟨rfl, F0.out _⟩
  · go_enter Tryz.func70, Tryz.ntmps70
    go_wp2
    go_quiet (fail)
    go_wp2
    go_ret
    exact ⟨rfl, F0.out _⟩

set_option maxRecDepth 100000 in
set_option maxHeartbeats 1000000 in
theorem count_rd (d : Nat) (fs : List (Int × Int)) (w : World) (room limit : Int) (L : Value) (made : Int) (N F vn : Value) (st : Int) (k1 : Value) (rd : Int) (k2 : Value) (hd : DiskB w d room limit L made N F vn false st k1 rd k2) (hk : KF w k2 fs) (hn0 : 0 ≤ rd) (hn : rd ≤ 1000000000) :
    Calls Tryz.prog 70 #[.pointer (some ⟨d, 0, none⟩), .pointer (some ⟨d, 10, none⟩)] w fun x w' => x = .returned (.int .i64 (fe (fo fs (rd + 1)))) ∧ DiskB w' d room limit L made N F vn (decide (fo fs (rd + 1) = 1)) st k1 (rd + 1) k2 ∧ Kept (fun k => k = d) w w' := by
  obtain ⟨-, -, -, -, -, -, -, c7, c8, c9, c10, c11⟩ := hd.cells
  have ff := hd.free
  have hmp : ∀ b es c, w.heap[b]? = some (.map es c) → ¬ b = d := fun b es c hb e => by subst e; exact hp_ne hd hb (by simp) rfl
  have hk2 : KF (w.setCell ⟨d, 10, none⟩ (.int .i64 (rd + 1))) k2 fs := hk.kept (S := fun k => k = d) ((Kept.refl (fun k => k = d) w).setCell (p := ⟨d, 10, none⟩) (fun _ => rfl) _) hmp
  have hl : ∀ m, (Instr.lookup 49 k2 (.int .i64 (rd + 1)) false).run Tryz.prog ((w.setCell ⟨d, 10, none⟩ (.int .i64 (rd + 1))).drewN m) = .ok (.int .i64 (fo fs (rd + 1))) ((w.setCell ⟨d, 10, none⟩ (.int .i64 (rd + 1))).drewN m) := fun m => KF.look (w := (w.setCell ⟨d, 10, none⟩ (.int .i64 (rd + 1))).drewN m) hk2 _
  have hr := fo_range fs (rd + 1)
  obtain ⟨q, hq⟩ : ∃ q, q = fo fs (rd + 1) := ⟨_, rfl⟩
  rw [← hq] at hr ⊢
  simp only [← hq] at hl
  have fin : ∀ nq, DiskB ((w.setCell ⟨d, 10, none⟩ (.int .i64 (rd + 1))).drewN nq) d room limit L made N F vn false st k1 (rd + 1) k2 ∧ Kept (fun k => k = d) w ((w.setCell ⟨d, 10, none⟩ (.int .i64 (rd + 1))).drewN nq) := fun nq =>
    ⟨set_block (i := 10) hd _, ((Kept.refl (fun k => k = d) w).setCell (p := ⟨d, 10, none⟩) (fun _ => rfl) _).drewN nq⟩
  have fin1 : ∀ nq, DiskB (((w.setCell ⟨d, 10, none⟩ (.int .i64 (rd + 1))).setCell ⟨d, 7, none⟩ (.bool true)).drewN nq) d room limit L made N F vn true st k1 (rd + 1) k2 ∧ Kept (fun k => k = d) w (((w.setCell ⟨d, 10, none⟩ (.int .i64 (rd + 1))).setCell ⟨d, 7, none⟩ (.bool true)).drewN nq) := fun nq =>
    ⟨set_block (i := 7) (set_block (i := 10) hd _) _, (((Kept.refl (fun k => k = d) w).setCell (p := ⟨d, 10, none⟩) (fun _ => rfl) _).setCell (p := ⟨d, 7, none⟩) (fun _ => rfl) _).drewN nq⟩
  have F0 := hid fin
  have F1 := hid fin1
  clear hq hd hk hk2 hmp fin fin1
  have hcase : q = 0 ∨ q = 1 ∨ q = 2 ∨ q = 3 := by omega
  clear hr
  rcases hcase with rfl | rfl | rfl | rfl
  · go_enter Tryz.func70, Tryz.ntmps70
    go_wp2
    go_quiet (fail)
    go_wp2
    go_ret
    exact ⟨rfl, F0.out _⟩
  · go_enter Tryz.func70, Tryz.ntmps70
    go_wp2
    go_quiet (fail)
    go_wp2
    go_ret
    exact ⟨rfl, F1.out _⟩
  · go_enter Tryz.func70, Tryz.ntmps70
    go_wp2
    go_quiet (fail)
    go_wp2
    go_ret
    exact ⟨rfl, F0.out _⟩
  · go_enter Tryz.func70, Tryz.ntmps70
    go_wp2
    go_quiet (fail)
    go_wp2
    go_ret
    exact ⟨rfl, F0.out _⟩

end Go.Proofs.YtlmompdfombgeaaGreat

namespace Go.Proofs.YtlmompdfombgeaaGreat
open Go.RowKit Go.MapKept

section
variable (d g : Nat) (nm mn : ByteArray) (w : World) (c7 : w.cell? ⟨d, 7, none⟩ = some (.bool false)) (hg : w.cell? ⟨g, 0, none⟩ = some (.string nm)) (hs : nm.size ≤ maxLen)
include c7 hg hs

set_option maxRecDepth 100000 in
set_option maxHeartbeats 1000000 in
theorem find_bad1 (ab : Bool) (sz : Int) (hok : nmOK nm = false) :
    Calls Tryz.prog 69 #[.pointer (some ⟨d, 0, none⟩), .agg #[.slice (some ⟨g, 0, none⟩) 1 1, .bool ab, .int .i64 sz]] w fun x w' => x = .returned (.tuple #[.pointer none, .int .i64 5]) ∧ Below w.heap.size w w' := by
  have hdl := World.block_lt_of_cell? _ _ c7
  have hgl := World.block_lt_of_cell? _ _ hg
  go_enter Tryz.func69, Tryz.ntmps69
  go_wp2
  refine wp_loop_rounds 2 ?_
  rw [rounds_succ]
  go_wp2_with (go_at_call 89; refine (isName_any nm _ hs).mono ?_; rw [hok]; rintro e w' ⟨rfl, rfl⟩)
  go_ret2
  exact ⟨rfl, (Below.refl _ _).alloc (Nat.le_refl _) _⟩

set_option maxRecDepth 100000 in
set_option maxHeartbeats 1000000 in
theorem find_missing1 (N : Nat) (es : Array MapEntry) (c : Nat) (sz : Int) (c4 : w.cell? ⟨d, 4, none⟩ = some (.map (some N))) (hN : w.heap[N]? = some (.map es c)) (hok : nmOK nm = true) (hf : Instr.findNow .string (.string nm) es.toList 0 = some none) :
    Calls Tryz.prog 69 #[.pointer (some ⟨d, 0, none⟩), .agg #[.slice (some ⟨g, 0, none⟩) 1 1, .bool false, .int .i64 sz]] w fun x w' => x = .returned (.tuple #[.pointer none, .int .i64 6]) ∧ Below w.heap.size w w' := by
  have hdl := World.block_lt_of_cell? _ _ c7
  have hgl := World.block_lt_of_cell? _ _ hg
  have hl : ∀ m, (Instr.lookup 47 (.map (some N)) (.string nm) true).run Tryz.prog ((w.alloc (.cells #[.slice (some ⟨g, 0, none⟩) 1 1, .bool false, .int .i64 sz] 104)).drewN m) = .ok (.tuple #[.int .i64 0, .bool false]) ((w.alloc (.cells #[.slice (some ⟨g, 0, none⟩) 1 1, .bool false, .int .i64 sz] 104)).drewN m) := fun m =>
    look_none (w := (w.alloc (.cells #[.slice (some ⟨g, 0, none⟩) 1 1, .bool false, .int .i64 sz] 104)).drewN m) Tryz.underlying47 Tryz.underlying9 (hp_alloc hN _) (key_str nm) (zero3 _) hf true
  clear hN hf
  go_enter Tryz.func69, Tryz.ntmps69
  go_wp2
  refine wp_loop_rounds 2 ?_
  rw [rounds_succ]
  go_wp2_with (go_at_call 89; refine (isName_any nm _ hs).mono ?_; rw [hok]; rintro e w' ⟨rfl, rfl⟩)
  rw [rounds_succ]
  go_wp2
  go_quiet (fail)
  go_wp2
  go_ret2
  exact ⟨rfl, below_drewN ((Below.refl _ _).alloc (Nat.le_refl _) _) _⟩

set_option maxRecDepth 100000 in
set_option maxHeartbeats 1000000 in
theorem find_size1 (N L p : Nat) (es fs : Array MapEntry) (c c' i i' : Nat) (n sz : Int) (ao : Option Addr) (len cap : Nat) (c4 : w.cell? ⟨d, 4, none⟩ = some (.map (some N))) (c2 : w.cell? ⟨d, 2, none⟩ = some (.map (some L))) (hN : w.heap[N]? = some (.map es c)) (hL : w.heap[L]? = some (.map fs c')) (hok : nmOK nm = true)
    (hf : Instr.findNow .string (.string nm) es.toList 0 = some (some (i, .int .i64 n))) (hf2 : Instr.findNow (.int .i64) (.int .i64 n) fs.toList 0 = some (some (i', .pointer (some ⟨p, 0, none⟩)))) (hp : w.cell? ⟨p, 2, none⟩ = some (.slice ao len cap)) (hsz : sz < 0 ∨ len < sz) :
    Calls Tryz.prog 69 #[.pointer (some ⟨d, 0, none⟩), .agg #[.slice (some ⟨g, 0, none⟩) 1 1, .bool false, .int .i64 sz]] w fun x w' => x = .returned (.tuple #[.pointer none, .int .i64 1]) ∧ Below w.heap.size w w' := by
  have hdl := World.block_lt_of_cell? _ _ c7
  have hgl := World.block_lt_of_cell? _ _ hg
  have hpl := World.block_lt_of_cell? _ _ hp
  have hl : ∀ m, (Instr.lookup 47 (.map (some N)) (.string nm) true).run Tryz.prog ((w.alloc (.cells #[.slice (some ⟨g, 0, none⟩) 1 1, .bool false, .int .i64 sz] 104)).drewN m) = .ok (.tuple #[.int .i64 n, .bool true]) ((w.alloc (.cells #[.slice (some ⟨g, 0, none⟩) 1 1, .bool false, .int .i64 sz] 104)).drewN m) := fun m =>
    look_found (w := (w.alloc (.cells #[.slice (some ⟨g, 0, none⟩) 1 1, .bool false, .int .i64 sz] 104)).drewN m) Tryz.underlying47 Tryz.underlying9 (hp_alloc hN _) (key_str nm) hf true
  have hl2 : ∀ m, (Instr.lookup 46 (.map (some L)) (.int .i64 n) false).run Tryz.prog ((w.alloc (.cells #[.slice (some ⟨g, 0, none⟩) 1 1, .bool false, .int .i64 sz] 104)).drewN m) = .ok (.pointer (some ⟨p, 0, none⟩)) ((w.alloc (.cells #[.slice (some ⟨g, 0, none⟩) 1 1, .bool false, .int .i64 sz] 104)).drewN m) := fun m =>
    look_found (w := (w.alloc (.cells #[.slice (some ⟨g, 0, none⟩) 1 1, .bool false, .int .i64 sz] 104)).drewN m) Tryz.underlying46 Tryz.underlying3 (hp_alloc hL _) (key_int n) hf2 false
  clear hN hf hL hf2
  rcases hsz with hsz | hsz
  · have j1 : decide (sz < 0) = true := by simpa using hsz
    go_enter Tryz.func69, Tryz.ntmps69
    go_wp2
    refine wp_loop_rounds 2 ?_
    rw [rounds_succ]
    go_wp2_with (go_at_call 89; refine (isName_any nm _ hs).mono ?_; rw [hok]; rintro e w' ⟨rfl, rfl⟩)
    rw [rounds_succ]
    go_wp2
    go_quiet (fail)
    go_wp2
    go_quiet (fail)
    go_wp2
    go_ret2
    exact ⟨rfl, below_drewN (below_drewN ((Below.refl _ _).alloc (Nat.le_refl _) _) _) _⟩
  · have j1 : decide (sz < 0) = false := by simp; omega
    have j2 : decide ((len : Int) < sz) = true := by simpa using hsz
    go_enter Tryz.func69, Tryz.ntmps69
    go_wp2
    refine wp_loop_rounds 2 ?_
    rw [rounds_succ]
    go_wp2_with (go_at_call 89; refine (isName_any nm _ hs).mono ?_; rw [hok]; rintro e w' ⟨rfl, rfl⟩)
    rw [rounds_succ]
    go_wp2
    go_quiet (fail)
    go_wp2
    go_quiet (fail)
    go_wp2
    go_ret2
    exact ⟨rfl, below_drewN (below_drewN ((Below.refl _ _).alloc (Nat.le_refl _) _) _) _⟩

set_option maxRecDepth 100000 in
set_option maxHeartbeats 1000000 in
theorem find_bad2 (hg1 : w.cell? ⟨g, 1, none⟩ = some (.string mn)) (hs1 : mn.size ≤ maxLen) (hok : (nmOK nm && nmOK mn) = false) :
    Calls Tryz.prog 69 #[.pointer (some ⟨d, 0, none⟩), .agg #[.slice (some ⟨g, 0, none⟩) 2 2, .bool false, .int .i64 0]] w fun x w' => x = .returned (.tuple #[.pointer none, .int .i64 5]) ∧ Below w.heap.size w w' := by
  have hdl := World.block_lt_of_cell? _ _ c7
  have hgl := World.block_lt_of_cell? _ _ hg
  cases h1 : nmOK nm
  · go_enter Tryz.func69, Tryz.ntmps69
    go_wp2
    refine wp_loop_rounds 3 ?_
    rw [rounds_succ]
    go_wp2_with (go_at_call 89; refine (isName_any nm _ hs).mono ?_; rw [h1]; rintro e w' ⟨rfl, rfl⟩)
    go_ret2
    exact ⟨rfl, (Below.refl _ _).alloc (Nat.le_refl _) _⟩
  · have h2 : nmOK mn = false := by simpa [h1] using hok
    go_enter Tryz.func69, Tryz.ntmps69
    go_wp2
    refine wp_loop_rounds 3 ?_
    rw [rounds_succ]
    go_wp2_with (go_at_call 89; refine (isName_any nm _ hs).mono ?_; rw [h1]; rintro e w' ⟨rfl, rfl⟩)
    rw [rounds_succ]
    go_wp2_with (go_at_call 89; refine (isName_any mn _ hs1).mono ?_; rw [h2]; rintro e w' ⟨rfl, rfl⟩)
    go_ret2
    exact ⟨rfl, (Below.refl _ _).alloc (Nat.le_refl _) _⟩

set_option maxRecDepth 100000 in
set_option maxHeartbeats 1000000 in
theorem find_missing2 (N : Nat) (es : Array MapEntry) (c : Nat) (hg1 : w.cell? ⟨g, 1, none⟩ = some (.string mn)) (hs1 : mn.size ≤ maxLen) (c4 : w.cell? ⟨d, 4, none⟩ = some (.map (some N))) (hN : w.heap[N]? = some (.map es c)) (h1 : nmOK nm = true) (h2 : nmOK mn = true) (hf : Instr.findNow .string (.string nm) es.toList 0 = some none) :
    Calls Tryz.prog 69 #[.pointer (some ⟨d, 0, none⟩), .agg #[.slice (some ⟨g, 0, none⟩) 2 2, .bool false, .int .i64 0]] w fun x w' => x = .returned (.tuple #[.pointer none, .int .i64 6]) ∧ Below w.heap.size w w' := by
  have hdl := World.block_lt_of_cell? _ _ c7
  have hgl := World.block_lt_of_cell? _ _ hg
  have hl : ∀ m, (Instr.lookup 47 (.map (some N)) (.string nm) true).run Tryz.prog ((w.alloc (.cells #[.slice (some ⟨g, 0, none⟩) 2 2, .bool false, .int .i64 0] 104)).drewN m) = .ok (.tuple #[.int .i64 0, .bool false]) ((w.alloc (.cells #[.slice (some ⟨g, 0, none⟩) 2 2, .bool false, .int .i64 0] 104)).drewN m) := fun m =>
    look_none (w := (w.alloc (.cells #[.slice (some ⟨g, 0, none⟩) 2 2, .bool false, .int .i64 0] 104)).drewN m) Tryz.underlying47 Tryz.underlying9 (hp_alloc hN _) (key_str nm) (zero3 _) hf true
  clear hN hf
  go_enter Tryz.func69, Tryz.ntmps69
  go_wp2
  refine wp_loop_rounds 3 ?_
  rw [rounds_succ]
  go_wp2_with (go_at_call 89; refine (isName_any nm _ hs).mono ?_; rw [h1]; rintro e w' ⟨rfl, rfl⟩)
  rw [rounds_succ]
  go_wp2_with (go_at_call 89; refine (isName_any mn _ hs1).mono ?_; rw [h2]; rintro e w' ⟨rfl, rfl⟩)
  rw [rounds_succ]
  go_wp2
  go_quiet (fail)
  go_wp2
  go_ret2
  exact ⟨rfl, below_drewN ((Below.refl _ _).alloc (Nat.le_refl _) _) _⟩

set_option maxRecDepth 100000 in
set_option maxHeartbeats 1000000 in
theorem find_there2 (N L p : Nat) (es fs : Array MapEntry) (c c' i i' : Nat) (n : Int) (ao : Option Addr) (len cap : Nat) (hg1 : w.cell? ⟨g, 1, none⟩ = some (.string mn)) (hs1 : mn.size ≤ maxLen) (c4 : w.cell? ⟨d, 4, none⟩ = some (.map (some N))) (c2 : w.cell? ⟨d, 2, none⟩ = some (.map (some L))) (hN : w.heap[N]? = some (.map es c)) (hL : w.heap[L]? = some (.map fs c')) (h1 : nmOK nm = true) (h2 : nmOK mn = true)
    (hf : Instr.findNow .string (.string nm) es.toList 0 = some (some (i, .int .i64 n))) (hf2 : Instr.findNow (.int .i64) (.int .i64 n) fs.toList 0 = some (some (i', .pointer (some ⟨p, 0, none⟩)))) (hp : w.cell? ⟨p, 2, none⟩ = some (.slice ao len cap)) :
    Calls Tryz.prog 69 #[.pointer (some ⟨d, 0, none⟩), .agg #[.slice (some ⟨g, 0, none⟩) 2 2, .bool false, .int .i64 0]] w fun x w' => x = .returned (.tuple #[.pointer (some ⟨p, 0, none⟩), .int .i64 0]) ∧ Below w.heap.size w w' := by
  have hdl := World.block_lt_of_cell? _ _ c7
  have hgl := World.block_lt_of_cell? _ _ hg
  have hpl := World.block_lt_of_cell? _ _ hp
  have hl : ∀ m, (Instr.lookup 47 (.map (some N)) (.string nm) true).run Tryz.prog ((w.alloc (.cells #[.slice (some ⟨g, 0, none⟩) 2 2, .bool false, .int .i64 0] 104)).drewN m) = .ok (.tuple #[.int .i64 n, .bool true]) ((w.alloc (.cells #[.slice (some ⟨g, 0, none⟩) 2 2, .bool false, .int .i64 0] 104)).drewN m) := fun m =>
    look_found (w := (w.alloc (.cells #[.slice (some ⟨g, 0, none⟩) 2 2, .bool false, .int .i64 0] 104)).drewN m) Tryz.underlying47 Tryz.underlying9 (hp_alloc hN _) (key_str nm) hf true
  have hl2 : ∀ m, (Instr.lookup 46 (.map (some L)) (.int .i64 n) false).run Tryz.prog ((w.alloc (.cells #[.slice (some ⟨g, 0, none⟩) 2 2, .bool false, .int .i64 0] 104)).drewN m) = .ok (.pointer (some ⟨p, 0, none⟩)) ((w.alloc (.cells #[.slice (some ⟨g, 0, none⟩) 2 2, .bool false, .int .i64 0] 104)).drewN m) := fun m =>
    look_found (w := (w.alloc (.cells #[.slice (some ⟨g, 0, none⟩) 2 2, .bool false, .int .i64 0] 104)).drewN m) Tryz.underlying46 Tryz.underlying3 (hp_alloc hL _) (key_int n) hf2 false
  have j2 : decide ((len : Int) < 0) = false := by simp
  clear hN hf hL hf2
  go_enter Tryz.func69, Tryz.ntmps69
  go_wp2
  refine wp_loop_rounds 3 ?_
  rw [rounds_succ]
  go_wp2_with (go_at_call 89; refine (isName_any nm _ hs).mono ?_; rw [h1]; rintro e w' ⟨rfl, rfl⟩)
  rw [rounds_succ]
  go_wp2_with (go_at_call 89; refine (isName_any mn _ hs1).mono ?_; rw [h2]; rintro e w' ⟨rfl, rfl⟩)
  rw [rounds_succ]
  go_wp2
  go_quiet (fail)
  go_wp2
  go_quiet (fail)
  go_wp2
  go_ret2
  exact ⟨rfl, by first | exact below_drewN (below_drewN ((Below.refl _ _).alloc (Nat.le_refl _) _) _) _ | exact below_drewN ((Below.refl _ _).alloc (Nat.le_refl _) _) _⟩

end
end Go.Proofs.YtlmompdfombgeaaGreat

namespace Go.Proofs.YtlmompdfombgeaaGreat
open Go.RowKit Go.MapKept Go.Maps Go.Sort Go.Shelf

theorem MG.stamped {κ : Type} [DecidableEq κ] {K : Ky κ} {w : World} {b c : Nat} {kv : List (κ × Value)} {es : Array MapEntry} (h : MG K w b kv es c) (hi : ∀ a b, K.enc a = K.enc b → a = b) : Stamped es c := by
  refine ⟨h.hold, h.nd, ?_⟩
  have e1 : es.toList.map (·.key) = (kv.map Prod.fst).map K.enc := by
    have := congrArg (List.map Prod.fst) h.kvs
    simpa [List.map_map, Function.comp_def] using this
  rw [e1]
  exact List.Pairwise.map _ (fun a b hab e => hab (hi a b e)) h.keys

/-- The entries of a map of texts, read. -/
theorem rg_KS {w : World} {b c : Nat} {nv : List (ByteArray × Value)} {es : Array MapEntry} (h : MG KS w b nv es c) (hs : ∀ x ∈ nv, x.1.size ≤ maxLen) :
    (∀ e ∈ es.toList, ∃ s : ByteArray, e.key = .string s ∧ s.size ≤ maxLen) := by
  intro e he
  have hm : (e.key, e.val) ∈ nv.map (fun x => (KS.enc x.1, x.2)) := by
    rw [← h.kvs]
    exact List.mem_map.2 ⟨e, he, rfl⟩
  obtain ⟨x, hx, hxe⟩ := List.mem_map.1 hm
  injection hxe with h1 h2
  exact ⟨x.1, h1.symm, hs x hx⟩

theorem owns_KS {w : World} {b c : Nat} {nv : List (ByteArray × Value)} {es : Array MapEntry} (h : MG KS w b nv es c) (hs : ∀ x ∈ nv, x.1.size ≤ maxLen) (hn : nv.length ≤ 1000000) :
    w.ownsMap Tryz.prog 9 anyR b nv.length (.map ((es.toList.map (WideElems.rg Tryz.prog 9 anyR)).foldr DataW.insert [])) := by
  have hk : ∀ e ∈ es.toList, ∃ s : ByteArray, keyOf Tryz.prog 9 e.key = some (.string s.data.toList) ∧ e.key = .string s := fun e he => by
    obtain ⟨s, h1, h2⟩ := rg_KS h hs e he
    exact ⟨s, by rw [h1]; exact WideMaps.keyOf_string_mk Tryz.underlying9 h2, h1⟩
  refine ⟨es, c, h.blk, ⟨by rw [h.size]; unfold maxLen; omega, ?_, ?_⟩, by rw [h.size]; exact Nat.le_refl _, rfl⟩
  · exact h.stamped (fun a b e => by injection e)
  · intro e he
    obtain ⟨s, h1, _⟩ := hk e he
    exact ⟨(.string s.data.toList, .lit (.bool true)), by simp [WideElems.rd, h1, anyR]⟩

theorem strKeys_KS {w : World} {b c : Nat} {nv : List (ByteArray × Value)} {es : Array MapEntry} (h : MG KS w b nv es c) (hs : ∀ x ∈ nv, x.1.size ≤ maxLen) :
    (strKeys (.map ((es.toList.map (WideElems.rg (H := Unit) Tryz.prog 9 anyR)).foldr DataW.insert []))).Perm (nv.map (fun x => x.1.data.toList)) := by
  have h1 : ((es.toList.map (WideElems.rg (H := Unit) Tryz.prog 9 anyR)).map (fun p => strOf p.1)) = nv.map (fun x => x.1.data.toList) := by
    have e1 : (es.toList.map (WideElems.rg (H := Unit) Tryz.prog 9 anyR)).map (fun p => strOf p.1) = (es.toList.map (fun e => (e.key, e.val))).map (fun x => match x.1 with | .string s => s.data.toList | _ => []) := by
      rw [List.map_map, List.map_map]
      apply List.map_congr_left
      intro e he
      obtain ⟨s, h2, h3⟩ := rg_KS h hs e he
      have hk : keyOf Tryz.prog 9 (.string s) = some (.string s.data.toList) := WideMaps.keyOf_string_mk Tryz.underlying9 h3
      simp [WideElems.rg, WideElems.rd, hk, anyR, strOf, h2]
    rw [e1, h.kvs, List.map_map]
    rfl
  rw [← h1]
  exact (WideShapes.sorted_perm _).map _

theorem sort_perm {l l' : List (List UInt8)} (h : l.Perm l') : l.mergeSort (fun x y => decide (x ≤ y)) = l'.mergeSort (fun x y => decide (x ≤ y)) := by
  have ht : ∀ a b c : List UInt8, decide (a ≤ b) = true → decide (b ≤ c) = true → decide (a ≤ c) = true := fun a b c h1 h2 => by
    simp at h1 h2 ⊢
    exact List.le_trans h1 h2
  have hto : ∀ a b : List UInt8, (decide (a ≤ b) || decide (b ≤ a)) = true := fun a b => by
    simp
    exact List.le_total a b
  refine List.Perm.eq_of_pairwise (le := fun a b => decide (a ≤ b) = true) ?_ (List.pairwise_mergeSort ht hto l) (List.pairwise_mergeSort ht hto l') ((List.mergeSort_perm l _).trans (h.trans (List.mergeSort_perm l' _).symm))
  intro a b _ _ h1 h2
  simp at h1 h2
  exact List.le_antisymm h1 h2

/-- The names of a map, the least first. -/
def sk (nv : List (ByteArray × Value)) : List (List UInt8) := (nv.map (fun x => x.1.data.toList)).mergeSort (fun x y => decide (x ≤ y))

theorem sorted_gen {w : World} {b c : Nat} {nv : List (ByteArray × Value)} {es : Array MapEntry} (h : MG KS w b nv es c) (hs : ∀ x ∈ nv, x.1.size ≤ maxLen) (hn : nv.length ≤ 1000000) :
    Calls Tryz.prog 72 #[.map (some b)] w fun e w' => ∃ v, e = .returned v ∧ w'.ownsRow w.heap.size 9 1 v nv.length ((sk nv).map encStr) ∧ (v = .slice none 0 0 ↔ nv = []) ∧ Below w.heap.size w w' := by
  have hp := strKeys_KS h hs
  have hlen : Maps.size (DataW.map ((es.toList.map (WideElems.rg (H := Unit) Tryz.prog 9 anyR)).foldr DataW.insert [])) = nv.length := by
    have := (WideShapes.sorted_perm (es.toList.map (WideElems.rg (H := Unit) Tryz.prog 9 anyR))).length_eq
    simp [Maps.size, this, ← h.size]
  refine (sorted_any b nv.length _ anyR w (owns_KS h hs hn) (by rw [hlen]; unfold maxLen; omega) (by rw [hlen]; omega)).mono ?_
  rintro e w' ⟨v, ss, rfl, hss, ho, hnil, hb⟩
  have hl : ss.length = nv.length := by simpa using (hss.trans hp).length_eq
  refine ⟨v, rfl, ?_, ?_, hb⟩
  · rw [sort_perm (hss.trans hp), hl] at ho
    exact ho
  · rw [hnil]
    constructor
    · intro e
      subst e
      exact List.eq_nil_of_length_eq_zero hl.symm
    · intro e
      subst e
      exact List.eq_nil_of_length_eq_zero hl

end Go.Proofs.YtlmompdfombgeaaGreat

namespace Go.Proofs.YtlmompdfombgeaaGreat
open Go.RowKit Go.MapKept Go.Maps Go.Sort Go.Shelf

theorem rg_KI {w : World} {b c : Nat} {nv : List (Int × Value)} {es : Array MapEntry} (h : MG KI w b nv es c) (hs : ∀ x ∈ nv, (Lit.int .i64 x.1).wf = true) :
    (∀ e ∈ es.toList, ∃ s : Int, e.key = .int .i64 s ∧ (Lit.int .i64 s).wf = true) := by
  intro e he
  have hm : (e.key, e.val) ∈ nv.map (fun x => (KI.enc x.1, x.2)) := by
    rw [← h.kvs]
    exact List.mem_map.2 ⟨e, he, rfl⟩
  obtain ⟨x, hx, hxe⟩ := List.mem_map.1 hm
  injection hxe with h1 h2
  exact ⟨x.1, h1.symm, hs x hx⟩

theorem owns_KI {w : World} {b c : Nat} {nv : List (Int × Value)} {es : Array MapEntry} (h : MG KI w b nv es c) (hs : ∀ x ∈ nv, (Lit.int .i64 x.1).wf = true) (hn : nv.length ≤ 1000000) :
    w.ownsMap Tryz.prog 3 anyR b nv.length (.map ((es.toList.map (WideElems.rg Tryz.prog 3 anyR)).foldr DataW.insert [])) := by
  have hk : ∀ e ∈ es.toList, ∃ s : Int, keyOf Tryz.prog 3 e.key = some (.int .i64 s) ∧ e.key = .int .i64 s := fun e he => by
    obtain ⟨s, h1, h2⟩ := rg_KI h hs e he
    exact ⟨s, by rw [h1]; exact keyOf_int_mk Tryz.underlying3 h2, h1⟩
  refine ⟨es, c, h.blk, ⟨by rw [h.size]; unfold maxLen; omega, ?_, ?_⟩, by rw [h.size]; exact Nat.le_refl _, rfl⟩
  · exact h.stamped (fun a b e => by injection e)
  · intro e he
    obtain ⟨s, h1, _⟩ := hk e he
    exact ⟨(.int .i64 s, .lit (.bool true)), by simp [WideElems.rd, h1, anyR]⟩

theorem intKeys_KI {w : World} {b c : Nat} {nv : List (Int × Value)} {es : Array MapEntry} (h : MG KI w b nv es c) (hs : ∀ x ∈ nv, (Lit.int .i64 x.1).wf = true) :
    (intKeys (.map ((es.toList.map (WideElems.rg (H := Unit) Tryz.prog 3 anyR)).foldr DataW.insert []))).Perm (nv.map Prod.fst) := by
  have h1 : ((es.toList.map (WideElems.rg (H := Unit) Tryz.prog 3 anyR)).map (fun p => Go.intOf p.1)) = nv.map Prod.fst := by
    have e1 : (es.toList.map (WideElems.rg (H := Unit) Tryz.prog 3 anyR)).map (fun p => Go.intOf p.1) = (es.toList.map (fun e => (e.key, e.val))).map (fun x => match x.1 with | .int _ s => s | _ => 0) := by
      rw [List.map_map, List.map_map]
      apply List.map_congr_left
      intro e he
      obtain ⟨s, h2, h3⟩ := rg_KI h hs e he
      have hk : keyOf Tryz.prog 3 (.int .i64 s) = some (.int .i64 s) := keyOf_int_mk Tryz.underlying3 h3
      simp [WideElems.rg, WideElems.rd, hk, anyR, Go.intOf, h2]
    rw [e1, h.kvs, List.map_map]
    rfl
  rw [← h1]
  exact (WideShapes.sorted_perm _).map _

theorem sortI_perm {l l' : List Int} (h : l.Perm l') : l.mergeSort (fun x y => decide (x ≤ y)) = l'.mergeSort (fun x y => decide (x ≤ y)) := by
  have ht : ∀ a b c : Int, decide (a ≤ b) = true → decide (b ≤ c) = true → decide (a ≤ c) = true := fun a b c h1 h2 => by
    simp at h1 h2 ⊢
    omega
  have hto : ∀ a b : Int, (decide (a ≤ b) || decide (b ≤ a)) = true := fun a b => by
    simp
    omega
  refine List.Perm.eq_of_pairwise (le := fun a b => decide (a ≤ b) = true) ?_ (List.pairwise_mergeSort ht hto l) (List.pairwise_mergeSort ht hto l') ((List.mergeSort_perm l _).trans (h.trans (List.mergeSort_perm l' _).symm))
  intro a b _ _ h1 h2
  simp at h1 h2
  omega

/-- The numbers of a map, the least first. -/
def si (nv : List (Int × Value)) : List Int := (nv.map Prod.fst).mergeSort (fun x y => decide (x ≤ y))

theorem making_gen {w : World} {d b c : Nat} {nv : List (Int × Value)} {es : Array MapEntry} (hc : w.cell? ⟨d, 2, none⟩ = some (.map (some b))) (h : MG KI w b nv es c) (hs : ∀ x ∈ nv, (Lit.int .i64 x.1).wf = true) (hn : nv.length ≤ 1000000) :
    Calls Tryz.prog 73 #[.pointer (some ⟨d, 0, none⟩)] w fun e w' => ∃ v, e = .returned v ∧ w'.ownsRow w.heap.size 3 1 v nv.length ((si nv).map encZ) ∧ (v = .slice none 0 0 ↔ nv = []) ∧ Below w.heap.size w w' := by
  have hp := intKeys_KI h hs
  have hlen : Maps.size (DataW.map ((es.toList.map (WideElems.rg (H := Unit) Tryz.prog 3 anyR)).foldr DataW.insert [])) = nv.length := by
    have := (WideShapes.sorted_perm (es.toList.map (WideElems.rg (H := Unit) Tryz.prog 3 anyR))).length_eq
    simp [Maps.size, this, ← h.size]
  refine (making_any d b nv.length _ anyR w hc (owns_KI h hs hn) (by rw [hlen]; unfold maxLen; omega) (by rw [hlen]; omega)).mono ?_
  rintro e w' ⟨v, ss, rfl, hss, ho, hnil, hb⟩
  have hl : ss.length = nv.length := by simpa using (hss.trans hp).length_eq
  refine ⟨v, rfl, ?_, ?_, hb⟩
  · rw [sortI_perm (hss.trans hp), hl] at ho
    exact ho
  · rw [hnil]
    constructor
    · intro e
      subst e
      exact List.eq_nil_of_length_eq_zero hl.symm
    · intro e
      subst e
      exact List.eq_nil_of_length_eq_zero hl

end Go.Proofs.YtlmompdfombgeaaGreat
