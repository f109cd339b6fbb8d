import Derived.Test.YtlmompdfombgeaaGreatMu
import Derived.Test.YtlmompdfombgeaaGreatK1
import Derived.Test.YtlmompdfombgeaaGreatB1
namespace Go.Proofs.YtlmompdfombgeaaGreat
open Go.RowKit

/-- make([]byte, n). -/
theorem make_bytes (n : Nat) (hn : n ≤ 1000000000) : ∀ W : World, (Instr.makeSlice 35 (.int .i64 n) (.int .i64 n)).run Tryz.prog W = .ok (.slice (some ⟨W.heap.size, 0, none⟩) n n) (W.alloc (.cells (B8 (List.replicate n 0)).toArray 5)) := by
  intro W
  obtain ⟨i0, hi, hz0, hz1, hz2⟩ := info_parts Tryz.info5
  have h := run_make (P := Tryz.prog) W 35 5 i0 (.int .u8 0) Tryz.underlying35 hi hz0 .i64 .i64 (n : Int) (n : Int) (by omega) (by omega) (by rw [hz2]; omega) (by omega)
  rw [hz1] at h
  have e : madeCells (Value.int .u8 0).cells (((n : Int).toNat) * 1) = (B8 (List.replicate n 0)).toArray := by
    apply Array.ext
    · simp [madeCells, Value.cells, B8]
    · intro i h1 h2
      simp [madeCells, Value.cells, B8, Nat.mod_one]
  rw [e] at h
  simpa using h

/-- Bytes with the marks behind. -/
def rm (bs : List Int) : List Int := bs ++ List.replicate 40 171

theorem rm_len (bs : List Int) : (rm bs).length = bs.length + 40 := by simp [rm]

/-- The first k of l, noughts behind. -/
def part (l : List Int) (k : Nat) : List Int := l.take k ++ List.replicate (l.length - k) 0

theorem part_len (l : List Int) (k : Nat) (h : k ≤ l.length) : (part l k).length = l.length := by simp [part]; omega
theorem part_step (l : List Int) (k : Nat) (h : k < l.length) (y : Int) (hy : l[k]? = some y) : (part l k).set k y = part l (k + 1) := by
  apply List.ext_getElem?
  intro i
  simp only [part, List.getElem?_set, List.length_append, List.length_take, List.length_replicate]
  by_cases e : k = i
  · subst e
    have h1 : k < min k l.length + (l.length - k) := by omega
    rw [if_pos rfl, if_pos h1, List.getElem?_append_left (by simp; omega), List.getElem?_take, if_pos (by omega), hy]
  · rw [if_neg e]
    simp only [List.getElem?_append, List.length_take, List.getElem?_take, List.getElem?_replicate]
    have e1 : min k l.length = k := by omega
    have e2 : min (k + 1) l.length = k + 1 := by omega
    rw [e1, e2]
    by_cases h1 : i < k
    · have h3 : i < k + 1 := by omega
      simp [h1, h3]
    · have h3 : ¬ i < k + 1 := by omega
      have h4 : (i - k < l.length - k) = (i - (k + 1) < l.length - (k + 1)) := propext ⟨fun _ => by omega, fun _ => by omega⟩
      simp [h1, h3, h4]
theorem part_twice (l : List Int) (k : Nat) (y z : Int) : ((part l k).set k y).set k z = (part l k).set k z := by simp
theorem part_full (l : List Int) : part l l.length = l := by simp [part]

theorem Own.set {w : World} {g : Nat} {bs : List Int} (h : Own w g bs) (j : Nat) (y : Int) : Own (w.setCell ⟨g, j, none⟩ (.int .u8 y)) g (bs.set j y) := by
  have := set_block (i := j) h (.int .u8 y)
  unfold Own
  rw [this]
  congr 2
  apply Array.toList_inj.1
  simp [B8, List.map_set]

theorem Own.cell {w : World} {g : Nat} {bs : List Int} (h : Own w g bs) (j : Nat) (y : Int) (hy : bs[j]? = some y) : w.cell? ⟨g, j, none⟩ = some (.int .u8 y) := by
  rw [cell_of_row w g j _ _ _ h]
  simp [B8, hy]

set_option maxRecDepth 100000 in
set_option maxHeartbeats 1600000 in
theorem roomy_any (v : Value) (bs : List Int) (w : World) (h : Sl w v bs) (hl : bs.length ≤ 200000) :
    Calls Tryz.prog 51 #[v] w fun x w' => x = .returned (.slice (some ⟨w.heap.size, 0, none⟩) (bs.length + 40) (bs.length + 40)) ∧ Own w' w.heap.size (rm bs) ∧ Below w.heap.size w w' := by
  obtain ⟨ao, cap, rfl, hc, hx⟩ := h
  have hmk := make_bytes (bs.length + 40) (by omega)
  rw [show ((bs.length + 40 : Nat) : Int) = (bs.length : Int) + 40 by omega] at hmk
  have Hx := hid hx
  clear hx
  go_enter Tryz.func51, Tryz.ntmps51
  go_wp2
  go_loopw [4] (fun i wr => ∃ k : Nat, k ≤ bs.length + 40 ∧ i = .int .i64 k ∧ Own wr w.heap.size (part (rm bs) k) ∧ Below w.heap.size w wr) (fun i _ => bs.length + 40 - (intOf i).toNat)
  case atStart =>
    refine ⟨0, Nat.zero_le _, by go_num, ?_, (Below.refl _ _).alloc (Nat.le_refl _) _⟩
    have := hp_new w (.cells (B8 (List.replicate (bs.length + 40) 0)).toArray 5)
    unfold Own part
    rw [rm_len]
    simpa using this
  case round =>
    obtain ⟨k, hk, rfl, ho, hb⟩ := hrel
    by_cases hlt : k < bs.length + 40
    · obtain ⟨y, hy⟩ : ∃ y, (part (rm bs) k)[k]? = some y := ⟨(part (rm bs) k)[k]'(by rw [part_len _ _ (by rw [rm_len]; omega), rm_len]; exact hlt), by simp [part_len, rm_len, hlt, hk]⟩
      have cd := ho.cell k y hy
      have fz := free_of_block (o := k) ho
      have hgl := hp_lt ho
      have HO := hid ho
      have HB := hid hb
      have i2 : (k : Int) < ((bs.length + 40 : Nat) : Int) := by omega
      have i3 : (k : Int) < (bs.length : Int) + 40 := by omega
      by_cases hin : k < bs.length
      · obtain ⟨ab, aoff, rfl, haj⟩ := Hx.out (by intro e; subst e; simp at hin)
        have cs := haj k bs[k] (by simp [hin])
        have hsl := World.block_lt_of_cell? _ _ cs
        have cs' := (hb.cell hsl).trans cs
        have i4 : (k : Int) < (bs.length : Int) := by omega
        have ht : (rm bs)[k]? = some bs[k] := by
          rw [rm, List.getElem?_append_left hin]
          simp [hin]
        obtain ⟨z, hz⟩ : ∃ z, z = bs[k] := ⟨_, rfl⟩
        rw [← hz] at cs cs' ht
        have HT := hid ht
        have hne : ab ≠ w.heap.size := by simp at hsl; omega
        clear ho hb hy cs haj hz ht
        go_wp2
        go_roundw
        case rel =>
          refine ⟨k + 1, by omega, by go_num, ?_, ?_⟩
          · have := (HO.out.set k 171).set k z
            rw [part_twice, part_step _ _ (by rw [rm_len]; omega) z HT.out] at this
            exact this
          · exact (HB.out.setCell (p := ⟨w.heap.size, k, none⟩) (Nat.le_refl _) _).setCell (p := ⟨w.heap.size, k, none⟩) (Nat.le_refl _) _
        case measure => simp [intOf]; omega
      · have ht : (rm bs)[k]? = some 171 := by
          rw [rm, List.getElem?_append_right (by omega), List.getElem?_replicate, if_pos (by omega)]
        have HT := hid ht
        have i4 : ¬ (k : Int) < (bs.length : Int) := by omega
        clear ho hb hy ht
        go_wp2
        go_roundw
        case rel =>
          refine ⟨k + 1, by omega, by go_num, ?_, ?_⟩
          · have := HO.out.set k 171
            rw [part_step _ _ (by rw [rm_len]; omega) 171 HT.out] at this
            exact this
          · exact HB.out.setCell (p := ⟨w.heap.size, k, none⟩) (Nat.le_refl _) _
        case measure => simp [intOf]; omega
    · have hke := hid (show k = bs.length + 40 by omega)
      have i3 : ¬ ((k : Int) < ((bs.length + 40 : Nat) : Int)) := by omega
      have i4 : ¬ ((k : Int) < (bs.length : Int) + 40) := by omega
      have HO := hid ho
      have HB := hid hb
      clear ho hb
      go_wp2
      go_ret
      refine ⟨rfl, ?_, HB.out⟩
      have := HO.out
      rw [hke.out, ← rm_len, part_full] at this
      exact this


set_option maxRecDepth 100000 in
set_option maxHeartbeats 1600000 in
theorem left_any (v : Value) (bs : List Int) (g : Nat) (w : World) (h : Sl w v bs) (hl : bs.length ≤ 200000) (ho : Own w g (rm bs)) :
    Calls Tryz.prog 68 #[.slice (some ⟨g, 0, none⟩) (bs.length + 40) (bs.length + 40), v] w fun x w' => x = .returned (.bool true) ∧ DN w w' := by
  obtain ⟨ao, cap, rfl, hc, hx⟩ := h
  have Hx := hid hx
  have HO := hid ho
  clear hx ho
  go_enter Tryz.func68, Tryz.ntmps68
  go_wp2
  go_loopw [5] (fun i wr => ∃ k : Nat, k ≤ bs.length + 40 ∧ i = .int .i64 k ∧ DN w wr) (fun i _ => bs.length + 40 - (intOf i).toNat)
  case atStart => exact ⟨0, Nat.zero_le _, by go_num, DN.refl w⟩
  case round =>
    obtain ⟨k, hk, rfl, hdn⟩ := hrel
    by_cases hlt : k < bs.length + 40
    · have i2 : (k : Int) < ((bs.length + 40 : Nat) : Int) := by omega
      have i3 : (k : Int) < (bs.length : Int) + 40 := by omega
      by_cases hin : k < bs.length
      · obtain ⟨ab, aoff, rfl, haj⟩ := Hx.out (by intro e; subst e; simp at hin)
        have cs := (hdn.cell _).trans (haj k bs[k] (by simp [hin]))
        have i4 : (k : Int) < (bs.length : Int) := by omega
        have cd := (hdn.cell _).trans (HO.out.cell k bs[k] (by rw [rm, List.getElem?_append_left hin]; simp [hin]))
        obtain ⟨z, hz⟩ : ∃ z, z = bs[k] := ⟨_, rfl⟩
        rw [← hz] at cs cd
        have i6 : decide (bs.length ≤ k) = false := by simp; omega
        clear haj hz
        go_wp2
        go_quiet (fail)
        go_wp2
        go_roundw
        case rel => first | exact ⟨k + 1, by omega, by go_num, hdn.more _⟩ | exact ⟨k + 1, by omega, by go_num, hdn⟩ | ((repeat apply Exists.intro); exact ⟨⟨k + 1, by omega, by go_num, hdn.more _⟩, rfl⟩)
        case measure => simp [intOf]; omega
      · have cd := (hdn.cell _).trans (HO.out.cell k 171 (by rw [rm, List.getElem?_append_right (by omega), List.getElem?_replicate, if_pos (by omega)]))
        have i4 : ¬ (k : Int) < (bs.length : Int) := by omega
        have i5 : decide (bs.length ≤ k) = true := by simp; omega
        have i6 : decide (k < bs.length) = false := by simp; omega
        go_wp2
        go_quiet (fail)
        go_wp2
        go_roundw
        case rel => first | exact ⟨k + 1, by omega, by go_num, hdn.more _⟩ | exact ⟨k + 1, by omega, by go_num, hdn⟩ | ((repeat apply Exists.intro); exact ⟨⟨k + 1, by omega, by go_num, hdn.more _⟩, rfl⟩)
        case measure => simp [intOf]; omega
    · have i3 : ¬ ((k : Int) < ((bs.length + 40 : Nat) : Int)) := by omega
      have i4 : ¬ ((k : Int) < (bs.length : Int) + 40) := by omega
      go_wp2
      go_ret
      exact ⟨rfl, hdn⟩

end Go.Proofs.YtlmompdfombgeaaGreat
