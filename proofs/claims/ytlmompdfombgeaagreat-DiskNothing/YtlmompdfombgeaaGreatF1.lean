import Derived.Test.YtlmompdfombgeaaGreatMp
import Derived.Deep.AppendSrc
import Derived.ArgAppend
namespace Go.Proofs.YtlmompdfombgeaaGreat
open Go.RowKit

theorem Sl.alloc {w : World} {v : Value} {bs : List Int} (h : Sl w v bs) (o : Obj) : Sl (w.alloc o) v bs := h.below ((Below.refl _ _).alloc (Nat.le_refl _) _)
theorem Sl.drew {w : World} {v : Value} {bs : List Int} (h : Sl w v bs) : Sl w.drew v bs := h.below (Below.refl _ _).drew

theorem Tryz.info4 : (Tryz.prog.info? 4).map (fun i => (i.zero, i.size, i.bytes)) = some (some (.bool false), 1, 1) := by kernel_rfl
theorem Tryz.info3 : (Tryz.prog.info? 3).map (fun i => (i.zero, i.size, i.bytes)) = some (some (.int .i64 0), 1, 8) := by kernel_rfl
theorem Tryz.info171 : (Tryz.prog.info? 171).map (fun i => (i.zero, i.size, i.bytes)) = some (some .nilIface, 1, 16) := by kernel_rfl
theorem Tryz.info9 : (Tryz.prog.info? 9).map (fun i => (i.zero, i.size, i.bytes)) = some (some (.string ⟨#[]⟩), 1, 16) := by kernel_rfl

theorem hp_set {w : World} {g : Nat} {o : Obj} (h : w.heap[g]? = some o) {p : Addr} (hn : g ≠ p.block) (v : Value) : (w.setCell p v).heap[g]? = some o := (Below.heap_setCell _ _ _ _ hn).trans h
theorem hp_alloc {w : World} {g : Nat} {o : Obj} (h : w.heap[g]? = some o) (x : Obj) : (w.alloc x).heap[g]? = some o := (Below.heap_alloc _ _ _ (Array.getElem?_eq_some_iff.1 h).1).trans h
theorem hp_new (w : World) (x : Obj) : (w.alloc x).heap[w.heap.size]? = some x := (MapKept.heap_alloc w x).1
theorem hp_lt {w : World} {g : Nat} {o : Obj} (h : w.heap[g]? = some o) : g < w.heap.size := (Array.getElem?_eq_some_iff.1 h).1
theorem hp_below {w w' : World} {g : Nat} {o : Obj} {B : Nat} (h : w.heap[g]? = some o) (hk : Below B w w') (hg : g < B) : w'.heap[g]? = some o := (hk.block g hg).trans h
theorem hp_kept {w w' : World} {g : Nat} {o : Obj} {S : Nat → Prop} (h : w.heap[g]? = some o) (hk : Kept S w w') (hg : ¬ S g) : w'.heap[g]? = some o := (hk.block g (hp_lt h) hg).trans h
theorem hp_ne {w : World} {g k : Nat} {o o' : Obj} (h : w.heap[g]? = some o) (h' : w.heap[k]? = some o') (hne : o ≠ o') : g ≠ k := by
  intro e; subst e; rw [h] at h'; injection h' with h'; exact hne h'

theorem undrew {B : Nat} {w w' : World} (h : Below B w.drew w') : Below B w w' := ⟨h.os, h.tape, h.output, h.size, h.block⟩

/-- The cells of bools. -/
abbrev BB (l : List Bool) : List Value := l.map Value.bool

/-- Block g holds these bools. -/
def OwnB (w : World) (g : Nat) (bs : List Bool) : Prop := w.heap[g]? = some (.cells (BB bs).toArray 4 (0, 0))

theorem Own.below {w w' : World} {g : Nat} {bs : List Int} {B : Nat} (h : Own w g bs) (hk : Below B w w') (hg : g < B) : Own w' g bs := (hk.block g hg).trans h
theorem OwnB.below {w w' : World} {g : Nat} {bs : List Bool} {B : Nat} (h : OwnB w g bs) (hk : Below B w w') (hg : g < B) : OwnB w' g bs := (hk.block g hg).trans h
theorem Own.lt {w : World} {g : Nat} {bs : List Int} (h : Own w g bs) : g < w.heap.size := (Array.getElem?_eq_some_iff.1 h).1
theorem OwnB.lt {w : World} {g : Nat} {bs : List Bool} (h : OwnB w g bs) : g < w.heap.size := (Array.getElem?_eq_some_iff.1 h).1

/-- make([]bool, n). -/
theorem make_bools (n : Nat) (hn : n ≤ 1000000000) : ∀ W : World, (Instr.makeSlice 107 (.int .i64 n) (.int .i64 n)).run Tryz.prog W = .ok (.slice (some ⟨W.heap.size, 0, none⟩) n n) (W.alloc (.cells (BB (List.replicate n false)).toArray 4)) := by
  intro W
  obtain ⟨i0, hi, hz0, hz1, hz2⟩ := info_parts Tryz.info4
  have h := run_make (P := Tryz.prog) W 107 4 i0 (.bool false) Tryz.underlying107 hi hz0 .i64 .i64 (n : Int) (n : Int) (by omega) (by omega) (by rw [hz2]; omega) (by omega)
  rw [hz1] at h
  have e : madeCells (Value.bool false).cells (((n : Int).toNat) * 1) = (BB (List.replicate n false)).toArray := by
    apply Array.ext
    · simp [madeCells, Value.cells, BB]
    · intro i h1 h2
      simp [madeCells, Value.cells, BB, Nat.mod_one]
  rw [e] at h
  simpa using h

set_option maxRecDepth 100000 in
set_option maxHeartbeats 800000 in
theorem safeRow_any (v : Value) (bs : List Int) (w : World) (h : Sl w v bs) (hl : bs.length ≤ 1000000000) :
    Calls Tryz.prog 124 #[v] w fun x w' => ∃ A B, x = .returned (.agg #[.slice (some ⟨A, 0, none⟩) bs.length bs.length, .slice (some ⟨B, 0, none⟩) bs.length bs.length]) ∧ Own w' A bs ∧ OwnB w' B (List.replicate bs.length false) ∧ w.heap.size ≤ A ∧ w.heap.size ≤ B ∧ A ≠ B ∧ Below w.heap.size w w' := by
  have HS := hid h
  obtain ⟨ao, cap, rfl, hc, hx⟩ := h
  clear hx hc
  have hmk := make_bools bs.length hl
  go_enter Tryz.func124, Tryz.ntmps124
  go_wp2
  go_region_with (go_at_call 71; refine (copied_any _ bs _ (by first | exact HS.out.alloc _ | exact (HS.out.alloc _).drew | exact ((HS.out.alloc _).alloc _).drew | exact ((HS.out.alloc _).alloc _)) hl).mono ?_; rintro e w1 ⟨rfl, ho, hb⟩; have c0 := hb.cell (p := ⟨w.heap.size, 0, none⟩) (by simp; try omega); have c1 := hb.cell (p := ⟨w.heap.size, 1, none⟩) (by simp; try omega); have f0 := hb.frozen (p := ⟨w.heap.size, 0, none⟩) (by simp; try omega); have f1 := hb.frozen (p := ⟨w.heap.size, 1, none⟩) (by simp; try omega); have hz : w.heap.size < w1.heap.size := (by have := hb.size; simp at this; omega); have HO := hid ho; have HB := hid hb; clear ho hb)
  all_goals go_wp2
  · have hb : Below (w.heap.size + 1) (w.alloc (Obj.cells #[Value.slice none 0 0, Value.slice none 0 0] 109)) w1 := by simpa using undrew HB.out
    have ho : Own w1 (w.heap.size + 1) bs := by simpa using HO.out
    have hb0 : Below w.heap.size w w1 := ((Below.refl _ _).alloc (Nat.le_refl _) _).trans (hb.mono (by omega))
    have hol := hp_lt ho
    refine bodyPost_ret (v := .agg #[.slice (some ⟨w.heap.size + 1, 0, none⟩) bs.length bs.length, .slice (some ⟨w1.heap.size, 0, none⟩) bs.length bs.length]) (by simp [results, Tryz.results124, go_sem, c0, c1, hz]) rfl ⟨w.heap.size + 1, w1.heap.size, rfl, ?_, ?_, by omega, by omega, by omega, ?_⟩
    · exact hp_alloc (hp_set (hp_set ho (by simp) _) (by simp) _) _
    · have := hp_new ((w1.setCell ⟨w.heap.size, 0, none⟩ (Value.slice (some ⟨w.heap.size + 1, 0, none⟩) bs.length bs.length)).setCell ⟨w.heap.size, 1, none⟩ (Value.slice (some ⟨w1.heap.size, 0, none⟩) bs.length bs.length)) (Obj.cells (Array.replicate bs.length (Value.bool false)) 4)
      simpa [OwnB, BB] using this
    · exact ((hb0.setCell (p := ⟨w.heap.size, 0, none⟩) (Nat.le_refl _) _).setCell (p := ⟨w.heap.size, 1, none⟩) (Nat.le_refl _) _).alloc (by have := hb0.size; simp; omega) _
  · have hb : Below (w.heap.size + 1 + 1) ((w.alloc (Obj.cells #[Value.slice none 0 0, Value.slice none 0 0] 109)).alloc (Obj.cells (Array.replicate bs.length (Value.bool false)) 4)) w1 := by simpa using undrew HB.out
    have ho : Own w1 (w.heap.size + 1 + 1) bs := by simpa using HO.out
    have hb0 : Below w.heap.size w w1 := (((Below.refl _ _).alloc (Nat.le_refl _) _).alloc (by simp) _).trans (hb.mono (by omega))
    have hol := hp_lt ho
    refine bodyPost_ret (v := .agg #[.slice (some ⟨w.heap.size + 1 + 1, 0, none⟩) bs.length bs.length, .slice (some ⟨w.heap.size + 1, 0, none⟩) bs.length bs.length]) (by simp [results, Tryz.results124, go_sem, c0, c1]) rfl ⟨w.heap.size + 1 + 1, w.heap.size + 1, rfl, ?_, ?_, by omega, by omega, by omega, ?_⟩
    · exact (hp_set (hp_set ho (by simp; omega) _) (by simp; omega) _)
    · have h0 := hp_new (w.alloc (Obj.cells #[Value.slice none 0 0, Value.slice none 0 0] 109)) (Obj.cells (Array.replicate bs.length (Value.bool false)) 4)
      have h1 : OwnB ((w.alloc (Obj.cells #[Value.slice none 0 0, Value.slice none 0 0] 109)).alloc (Obj.cells (Array.replicate bs.length (Value.bool false)) 4)) (w.heap.size + 1) (List.replicate bs.length false) := by simpa [OwnB, BB] using h0
      exact (hp_set (hp_set (h1.below hb (by omega)) (by simp) _) (by simp) _)
    · exact ((hb0.setCell (p := ⟨w.heap.size, 0, none⟩) (Nat.le_refl _) _).setCell (p := ⟨w.heap.size, 1, none⟩) (Nat.le_refl _) _)

end Go.Proofs.YtlmompdfombgeaaGreat
