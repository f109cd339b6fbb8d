import Derived.Test.YthcoigbkdbkojaaGreatK02
import Derived.Deep.Cut
import Derived.Laws.EntriesVeiled
import Derived.Test.YthcoigbkdbkojaaGreatProg
import Derived.WalkKit
import Derived.WalkSpells
import Derived.WalkLawsBesides
import Derived.Deep.RegionHeld3
import Derived.Deep.AppendLies
import Derived.Deep.DrawnRows
import Derived.Deep.QuietTactic
import Derived.BigQuiet
import Derived.Handy
import Derived.Laws.CopyOwn
import Derived.Deep.AppendSrc
import Derived.Lib.Bytealg
namespace Go.Proofs.YthcoigbkdbkojaaGreat
open Go.RowKit

/-- A text's bytes. -/
def strBs (s : ByteArray) : List Int := s.data.toList.map fun b => (b.toNat : Int)
theorem strBs_len (s : ByteArray) : (strBs s).length = s.size := by
  unfold strBs; rw [List.length_map, Array.length_toList]; rfl

/-- least ≤ n ≤ most. -/
def withinB (n l m : Int) : Bool := decide (l ≤ n) && decide (n ≤ m)

set_option maxRecDepth 100000 in
theorem within_any (n l m : Int) (w : World) : Calls Tryz.prog 49 #[.int .i64 n, .int .i64 l, .int .i64 m] w fun x w' => x = .returned (.bool (withinB n l m)) ∧ w' = w := by
  by_cases h1 : l ≤ n
  · by_cases h2 : n ≤ m
    · go_enter Tryz.func49, Tryz.ntmps49
      go_wp2
      go_ret
      exact ⟨by simp [withinB, h1, h2], rfl⟩
    · have h3 : decide (n ≤ m) = false := by simpa using h2
      go_enter Tryz.func49, Tryz.ntmps49
      go_wp2
      go_ret
      exact ⟨by simp [withinB, h1, h2], rfl⟩
  · have h3 : decide (l ≤ n) = false := by simpa using h1
    go_enter Tryz.func49, Tryz.ntmps49
    go_wp2
    go_ret
    exact ⟨by simp [withinB, h3], rfl⟩

/-- A letter. -/
def letB (c : Int) : Bool := (decide (97 ≤ c) && decide (c ≤ 122)) || (decide (65 ≤ c) && decide (c ≤ 90))
/-- A byte of a name. -/
def nbB (c : Int) : Bool := c == 95 || c == 45 || c == 46 || letB c || (decide (48 ≤ c) && decide (c ≤ 57))

set_option maxRecDepth 100000 in
set_option maxHeartbeats 800000 in
theorem isLetter_any (c : Int) (w : World) : Calls Tryz.prog 71 #[.int .u8 c] w fun x w' => x = .returned (.bool (letB c)) ∧ w' = w := by
  rcases Bool.eq_false_or_eq_true (decide (97 ≤ c)) with h1 | h1 <;> rcases Bool.eq_false_or_eq_true (decide (c ≤ 122)) with h2 | h2 <;>
    rcases Bool.eq_false_or_eq_true (decide (65 ≤ c)) with h3 | h3 <;> rcases Bool.eq_false_or_eq_true (decide (c ≤ 90)) with h4 | h4 <;>
  · go_enter Tryz.func71, Tryz.ntmps71
    go_wp2
    go_ret
    exact ⟨by simp [letB, h1, h2, h3, h4], rfl⟩

set_option maxRecDepth 100000 in
set_option maxHeartbeats 800000 in
theorem isNameByte_any (c : Int) (w : World) : Calls Tryz.prog 72 #[.int .u8 c] w fun x w' => x = .returned (.bool (nbB c)) ∧ w' = w := by
  by_cases e1 : (c == 95) = true
  · go_enter Tryz.func72, Tryz.ntmps72
    go_wp2
    go_ret
    exact ⟨by simp [nbB, e1], rfl⟩
  have e1 : (c == 95) = false := by simpa using e1
  by_cases e2 : (c == 45) = true
  · go_enter Tryz.func72, Tryz.ntmps72
    go_wp2
    go_ret
    exact ⟨by simp [nbB, e2], rfl⟩
  have e2 : (c == 45) = false := by simpa using e2
  by_cases e3 : (c == 46) = true
  · go_enter Tryz.func72, Tryz.ntmps72
    go_wp2
    go_ret
    exact ⟨by simp [nbB, e3], rfl⟩
  have e3 : (c == 46) = false := by simpa using e3
  obtain ⟨l, hl⟩ : ∃ l, l = letB c := ⟨_, rfl⟩
  have hL : ∀ w : World, Calls Tryz.prog 71 #[.int .u8 c] w fun x w' => x = .returned (.bool l) ∧ w' = w := by rw [hl]; exact isLetter_any c
  have HL := hid hL
  have Hl := hid hl
  clear hL hl
  rcases Bool.eq_false_or_eq_true l with h0 | h0 <;> rcases Bool.eq_false_or_eq_true (decide (48 ≤ c)) with h1 | h1 <;> rcases Bool.eq_false_or_eq_true (decide (c ≤ 57)) with h2 | h2 <;>
  · subst h0
    go_enter Tryz.func72, Tryz.ntmps72
    go_wp2_with (go_at_call 71; refine (HL.out _).mono ?_; rintro e w' ⟨rfl, rfl⟩)
    go_ret
    exact ⟨by simp [nbB, e1, e2, e3, ← Hl.out, h1, h2], rfl⟩

/-- A procedure's name. -/
def nameB (s : ByteArray) : Bool := decide (1 ≤ s.size ∧ s.size ≤ 32 ∧ letB ((strBs s).headD 0) = true ∧ ∀ x ∈ strBs s, nbB x = true)

theorem strBs_at (s : ByteArray) (k : Nat) (h : k < s.size) : (strBs s)[k]? = some ((s[k].toNat : Int)) := by
  rw [List.getElem?_eq_getElem (by rw [strBs_len]; exact h)]
  congr 1
  simp [strBs]
  rfl

theorem strBs_head (s : ByteArray) (h : 0 < s.size) : (strBs s).headD 0 = (s[0].toNat : Int) := by
  have := strBs_at s 0 h
  cases hs : strBs s with
  | nil => rw [hs] at this; cases this
  | cons a l => rw [hs] at this; simpa using this

set_option maxRecDepth 100000 in
set_option maxHeartbeats 800000 in
theorem isName_any (s : ByteArray) (w : World) : Calls Tryz.prog 48 #[.string s] w fun x w' => x = .returned (.bool (nameB s)) ∧ w' = w := by
  obtain ⟨r, hr⟩ : ∃ r, r = nameB s := ⟨_, rfl⟩
  rw [← hr]
  have HR := hid hr
  clear hr
  by_cases h1 : withinB s.size 1 32 = true
  · have hs1 : 1 ≤ s.size ∧ s.size ≤ 32 := by simp [withinB] at h1; omega
    have hs2 : 0 < s.size := by omega
    obtain ⟨a0, ha0⟩ : ∃ a0 : UInt8, a0 = s[0]'hs2 := ⟨_, rfl⟩
    have hh := strBs_head s hs2
    rw [← ha0] at hh
    by_cases h2 : letB (a0.toNat : Int) = true
    · have HW := hid h1
      have HH := hid hh
      have HS := hid hs1
      have HL := hid h2
      have hsz : s.size ≤ 32 := hs1.2
      clear h1 hh hs1 h2
      go_enter Tryz.func48, Tryz.ntmps48
      go_wp2_with (first
        | (go_at_call 49; refine (within_any (s.size : Int) 1 32 _).mono ?_; rintro e w' ⟨rfl, e1⟩; rw [e1, HW.out]; clear e1 w')
        | (go_at_call 71; rw [← ha0]; refine (isLetter_any (a0.toNat : Int) _).mono ?_; rintro e w' ⟨rfl, e1⟩; rw [e1, HL.out]; clear e1 w'))
      go_loopw [16] (fun i wr => ∃ (k : Nat), k ≤ s.size ∧ i = .int .i64 k ∧ wr = w ∧ Hid (∀ x ∈ (strBs s).take k, nbB x = true)) (fun i _ => s.size - (intOf i).toNat)
      case atStart => exact ⟨0, Nat.zero_le _, rfl, rfl, hid (by simp)⟩
      case round =>
        obtain ⟨k, hk, rfl, rfl, hpre⟩ := hrel
        by_cases hlt : k < s.size
        · obtain ⟨a1, ha1⟩ : ∃ a1 : UInt8, a1 = s[k]'hlt := ⟨_, rfl⟩
          have hat := strBs_at s k hlt
          rw [← ha1] at hat
          by_cases h3 : nbB (a1.toNat : Int) = true
          · have H3 := hid h3
            have HA := hid hat
            clear h3 hat
            go_wp2_with (go_at_call 72; rw [← ha1]; refine (isNameByte_any (a1.toNat : Int) _).mono ?_; rintro e w' ⟨rfl, e1⟩; rw [e1, H3.out]; clear e1 w')
            go_roundw
            case rel =>
              refine ⟨k + 1, by omega, by go_num, (by first | rfl | trivial), hid ?_⟩
              intro x hx
              rw [List.take_add_one, HA.out] at hx
              rcases List.mem_append.1 hx with h | h
              · exact hpre.out x h
              · simp at h; rw [h]; exact H3.out
            case measure => simp [intOf]; omega
          · have h3 : nbB (a1.toNat : Int) = false := by simpa using h3
            have H3 := hid h3
            have HA := hid hat
            clear h3 hat
            go_wp2_with (go_at_call 72; rw [← ha1]; refine (isNameByte_any (a1.toNat : Int) _).mono ?_; rintro e w' ⟨rfl, e1⟩; rw [e1, H3.out]; clear e1 w')
            go_ret
            refine ⟨?_, rfl⟩
            rw [HR.out, show nameB s = false by
              simp only [nameB, decide_eq_false_iff_not]
              rintro ⟨_, _, _, hall⟩
              have := hall _ (List.mem_of_getElem? HA.out)
              rw [H3.out] at this
              cases this]
            rfl
        · have hall := hpre.out
          rw [List.take_of_length_le (by rw [strBs_len]; omega)] at hall
          have Hall := hid hall
          clear hall
          go_wp2
          go_ret
          refine ⟨?_, rfl⟩
          rw [HR.out, show nameB s = true by
            simp only [nameB, decide_eq_true_eq]
            exact ⟨HS.out.1, HS.out.2, by rw [HH.out]; exact HL.out, Hall.out⟩]
          rfl
    · have h2 : letB (a0.toNat : Int) = false := by simpa using h2
      have HW := hid h1
      have HH := hid hh
      have HL := hid h2
      clear h1 hh h2
      go_enter Tryz.func48, Tryz.ntmps48
      go_wp2_with (first
        | (go_at_call 49; refine (within_any (s.size : Int) 1 32 _).mono ?_; rintro e w' ⟨rfl, e1⟩; rw [e1, HW.out]; clear e1 w')
        | (go_at_call 71; rw [← ha0]; refine (isLetter_any (a0.toNat : Int) _).mono ?_; rintro e w' ⟨rfl, e1⟩; rw [e1, HL.out]; clear e1 w'))
      go_ret
      refine ⟨?_, rfl⟩
      rw [HR.out, show nameB s = false by
        simp only [nameB, decide_eq_false_iff_not]
        rintro ⟨_, _, h, _⟩
        rw [HH.out, HL.out] at h
        cases h]
      rfl
  · have h1 : withinB s.size 1 32 = false := by simpa using h1
    have HW := hid h1
    clear h1
    go_enter Tryz.func48, Tryz.ntmps48
    go_wp2_with (go_at_call 49; refine (within_any (s.size : Int) 1 32 _).mono ?_; rintro e w' ⟨rfl, e1⟩; rw [e1, HW.out]; clear e1 w')
    go_ret
    refine ⟨?_, rfl⟩
    rw [HR.out, show nameB s = false by
      simp only [nameB, decide_eq_false_iff_not]
      rintro ⟨h, h', _⟩
      have := HW.out
      simp [withinB] at this
      omega]
    rfl

end Go.Proofs.YthcoigbkdbkojaaGreat

namespace Go.Proofs.YthcoigbkdbkojaaGreat
open Go.RowKit

theorem cutG {A : Type} {F : A → World → Prop} {a : A} {w : World} (I : World → Prop) (h : I w) (k : ∀ w', I w' → F a w') : F a w := k w h

/-- The kinds of fields. -/
inductive Fk where
  | a | b | c | arg | skp | cmp | look

abbrev fn (k : Nat) : Value := .func (.func k) #[] #[]

/-- A field in memory. -/
def Fk.cells : Fk → List Value
  | .a => [fn 74, fn 116, fn 117, fn 118]
  | .b => [fn 75, fn 116, fn 117, fn 118]
  | .c => [fn 76, fn 116, fn 117, fn 118]
  | .arg => [fn 78, fn 79, fn 119, fn 120]
  | .skp => [fn 74, fn 80, fn 119, fn 120]
  | .cmp => [fn 78, fn 81, fn 119, fn 120]
  | .look => [fn 78, fn 82, fn 119, fn 120]

/-- A field's own block. -/
def F4 (w : World) (r : Nat) (f : Fk) : Prop := w.heap[r]? = some (.cells f.cells.toArray 153 (0, 0))

theorem F4.below {w w' : World} {r : Nat} {f : Fk} (h : F4 w r f) (hb : Below w.heap.size w w') : F4 w' r f := blk_of hb h (lt_of h)

set_option maxRecDepth 100000 in
theorem register_any (k : Nat) (w : World) : Calls Tryz.prog 73 #[fn k] w fun x w' => x = .returned (.agg #[fn k, fn 116, fn 117, fn 118]) ∧ w' = w.alloc (.cells #[fn k, fn 116, fn 117, fn 118] 153) := by
  go_enter Tryz.func73, Tryz.ntmps73
  go_wp2
  go_returns
  exact ⟨rfl, rfl⟩

set_option maxRecDepth 100000 in
theorem numberF_any (k l : Nat) (w : World) : Calls Tryz.prog 77 #[fn k, fn l] w fun x w' => x = .returned (.agg #[fn k, fn l, fn 119, fn 120]) ∧ w' = w.alloc (.cells #[fn k, fn l, fn 119, fn 120] 153) := by
  go_enter Tryz.func77, Tryz.ntmps77
  go_wp2
  go_returns
  exact ⟨rfl, rfl⟩

/-- The fields of each operation. -/
def opF : Nat → List Fk
  | 1 => [.a]
  | 2 => [.a, .arg]
  | 3 => [.a, .b]
  | 4 => [.a, .b]
  | 5 => [.a]
  | 6 => [.a, .b, .c]
  | 7 => [.a, .b, .c]
  | 8 => [.a, .b, .c]
  | 9 => [.a, .b, .c]
  | 10 => [.b, .c, .cmp]
  | 11 => [.skp, .b, .c, .cmp]
  | 12 => [.a, .b, .c, .look]
  | 13 => [.a, .b, .c, .look]
  | 14 => [.a, .b]
  | 15 => [.a]
  | _ => []

def fsCells (fs : List Fk) : Array Value := (fs.flatMap Fk.cells).toArray

/-- An operation's list of fields, as a value. -/
def opS (G i : Nat) : Value := if 1 ≤ i ∧ i ≤ 15 then .slice (some ⟨G + (i - 1), 0, none⟩) (opF i).length (opF i).length else .slice none 0 0

def tblL (G : Nat) : List Value := (List.range 17).flatMap fun i => [opS G i, .bool (i == 1)]

/-- The table of operations in memory. -/
structure Tbl (w : World) (G : Nat) : Prop where
  tb : w.heap[G + 15]? = some (.cells (tblL G).toArray 119 (0, 0))
  fb : ∀ i, 1 ≤ i → i ≤ 15 → w.heap[G + (i - 1)]? = some (.cells (fsCells (opF i)) 153 (0, 0))

theorem Tbl.below {w w' : World} {G : Nat} (h : Tbl w G) (hb : Below w.heap.size w w') : Tbl w' G :=
  ⟨blk_of hb h.tb (lt_of h.tb), fun i h1 h2 => blk_of hb (h.fb i h1 h2) (lt_of (h.fb i h1 h2))⟩

theorem Tbl.kept {w w' : World} {G : Nat} {S : Nat → Prop} (h : Tbl w G) (hk : Kept S w w') (hs : ∀ k, G ≤ k → k ≤ G + 15 → ¬ S k) : Tbl w' G :=
  ⟨(hk.block _ (lt_of h.tb) (hs _ (by omega) (by omega))).trans h.tb, fun i h1 h2 => (hk.block _ (lt_of (h.fb i h1 h2)) (hs _ (by omega) (by omega))).trans (h.fb i h1 h2)⟩

def allocs (w : World) (l : List Obj) : World := l.foldl World.alloc w

theorem allocs_below (l : List Obj) : ∀ w : World, Below w.heap.size w (allocs w l) := by
  induction l with
  | nil => intro w; exact Below.refl _ _
  | cons o l ih => intro w; exact (below1 w o).trans ((ih (w.alloc o)).mono (by simp))

theorem allocs_at (l : List Obj) : ∀ (w : World) (j : Nat) (o : Obj), l[j]? = some o → (allocs w l).heap[w.heap.size + j]? = some o := by
  induction l with
  | nil => intro w j o h; simp at h
  | cons x l ih =>
    intro w j o h
    cases j with
    | zero =>
      simp at h
      subst h
      exact blk_of (allocs_below l (w.alloc x)) (heap_alloc_new w x) (by simp)
    | succ j =>
      have := ih (w.alloc x) j o (by simpa using h)
      show (allocs (w.alloc x) l).heap[w.heap.size + (j + 1)]? = some o
      simpa [Nat.add_assoc, Nat.add_comm 1 j] using this

def opObjs (G : Nat) : List Obj :=
  [.cells (fsCells [.a]) 153, .cells (fsCells [.b]) 153, .cells (fsCells [.c]) 153, .cells (fsCells [.a]) 153, .cells (fsCells [.b]) 153, .cells (fsCells [.c]) 153,
   .cells (fsCells [.arg]) 153, .cells (fsCells [.skp]) 153, .cells (fsCells [.arg]) 153, .cells (fsCells [.skp]) 153,
   .cells (fsCells [.cmp]) 153, .cells (fsCells [.look]) 153, .cells (fsCells [.cmp]) 153, .cells (fsCells [.look]) 153] ++
  ((List.range 15).map fun i => .cells (fsCells (opF (i + 1))) 153) ++ [.cells (tblL G).toArray 119]

theorem tbl_of (w : World) : Tbl (allocs w (opObjs (w.heap.size + 14))) (w.heap.size + 14) := by
  refine ⟨?_, ?_⟩
  · have := allocs_at (opObjs (w.heap.size + 14)) w 29 _ rfl
    simpa [Nat.add_assoc] using this
  · intro i h1 h2
    obtain ⟨j, rfl⟩ : ∃ j, i = j + 1 := ⟨i - 1, by omega⟩
    have hj : (opObjs (w.heap.size + 14))[14 + j]? = some (.cells (fsCells (opF (j + 1))) 153) := by
      rcases (show j = 0 ∨ j = 1 ∨ j = 2 ∨ j = 3 ∨ j = 4 ∨ j = 5 ∨ j = 6 ∨ j = 7 ∨ j = 8 ∨ j = 9 ∨ j = 10 ∨ j = 11 ∨ j = 12 ∨ j = 13 ∨ j = 14 by omega) with
        rfl | rfl | rfl | rfl | rfl | rfl | rfl | rfl | rfl | rfl | rfl | rfl | rfl | rfl | rfl <;> rfl
    have := allocs_at (opObjs (w.heap.size + 14)) w (14 + j) _ hj
    simpa [Nat.add_assoc] using this

/-- What operations() leaves. -/
def OpsPost (w : World) (x : Ending) (w' : World) : Prop := ∃ G, x = .returned (.slice (some ⟨G + 15, 0, none⟩) 17 17) ∧ Tbl w' G ∧ w.heap.size ≤ G ∧ Below w.heap.size w w'

theorem ops_end (w : World) : OpsPost w (.returned (.slice (some ⟨w.heap.size + 14 + 15, 0, none⟩) 17 17)) (allocs w (opObjs (w.heap.size + 14))) :=
  ⟨_, rfl, tbl_of w, by omega, allocs_below _ w⟩

set_option maxRecDepth 100000 in
set_option maxHeartbeats 4000000 in
theorem operations_any (w : World) : Calls Tryz.prog 50 #[] w (OpsPost w) := by
  have r1 := register_any 74
  have r2 := register_any 75
  have r3 := register_any 76
  have R1 := hid r1
  have R2 := hid r2
  have R3 := hid r3
  clear r1 r2 r3
  have HE := hid (ops_end w)
  go_enter Tryz.func50, Tryz.ntmps50
  go_wp2_with (first
    | (go_at_call 73
       first
       | (refine (R1.out _).mono ?_)
       | (refine (R2.out _).mono ?_)
       | (refine (R3.out _).mono ?_)
       rintro e w' ⟨rfl, rfl⟩)
    | (go_at_call 77
       refine (numberF_any _ _ _).mono ?_
       rintro e w' ⟨rfl, rfl⟩))
  go_ret
  exact HE.out

end Go.Proofs.YthcoigbkdbkojaaGreat

namespace Go.Proofs.YthcoigbkdbkojaaGreat
open Go.RowKit

/-- Which operation a number is: 0: none. -/
def opN (op : Int) : Nat := if 1 ≤ op ∧ op ≤ 16 then op.toNat else 0

def findV (G : Nat) (op : Int) : Value := .tuple #[.agg #[opS G (opN op), .bool (opN op == 1)], .bool (decide (1 ≤ op ∧ op ≤ 16))]

theorem opS_form (G i : Nat) : ∃ ao n c, opS G i = .slice ao n c := by unfold opS; split <;> exact ⟨_, _, _, rfl⟩

theorem tbl_cells {w : World} {G : Nat} (h : Tbl w G) (i : Nat) (hi : i < 17) : w.cell? ⟨G + 15, i * 2, none⟩ = some (opS G i) ∧ w.cell? ⟨G + 15, i * 2 + 1, none⟩ = some (.bool (i == 1)) := by
  rw [cell_of_row w _ _ _ _ _ h.tb, cell_of_row w _ _ _ _ _ h.tb]
  rcases (show i = 0 ∨ i = 1 ∨ i = 2 ∨ i = 3 ∨ i = 4 ∨ i = 5 ∨ i = 6 ∨ i = 7 ∨ i = 8 ∨ i = 9 ∨ i = 10 ∨ i = 11 ∨ i = 12 ∨ i = 13 ∨ i = 14 ∨ i = 15 ∨ i = 16 by omega) with
    rfl | rfl | rfl | rfl | rfl | rfl | rfl | rfl | rfl | rfl | rfl | rfl | rfl | rfl | rfl | rfl | rfl <;> exact ⟨rfl, rfl⟩

set_option maxRecDepth 100000 in
set_option maxHeartbeats 800000 in
theorem find_any (G : Nat) (op : Int) (w : World) (h : Tbl w G) :
    Calls Tryz.prog 51 #[.slice (some ⟨G + 15, 0, none⟩) 17 17, .int .i64 op] w fun x w' => x = .returned (findV G op) ∧ Below w.heap.size w w' := by
  by_cases hop : 1 ≤ op ∧ op ≤ 16
  · have hw : withinB op 1 16 = true := by simp [withinB, hop]
    obtain ⟨i, rfl⟩ : ∃ i : Nat, op = i := ⟨op.toNat, by omega⟩
    have hn : opN i = i := by simp [opN, hop]
    have hi : i < 17 := by omega
    obtain ⟨c1, c2⟩ := tbl_cells h i hi
    obtain ⟨ao, n, c, hs⟩ := opS_form G i
    have hz := lt_of h.tb
    rw [show findV G i = .tuple #[.agg #[.slice ao n c, .bool (i == 1)], .bool true] by rw [findV, hn, hs]; simp [hop]]
    rw [hs] at c1
    obtain ⟨q, hq⟩ : ∃ q, q = (i == 1) := ⟨_, rfl⟩
    rw [← hq] at c2 ⊢
    have HW := hid hw
    have hi0 : (0 : Int) ≤ (i : Int) := by omega
    have hi1 : (i : Int) < 17 := by omega
    clear hs hn hop hw h hq
    go_enter Tryz.func51, Tryz.ntmps51
    go_wp2_with (go_at_call 49; refine (within_any (i : Int) 1 16 _).mono ?_; rintro e w' ⟨rfl, e1⟩; rw [e1, HW.out]; clear e1 w')
    go_returns
    exact ⟨rfl, below1 _ _⟩
  · have hw : withinB op 1 16 = false := by simp [withinB]; omega
    rw [show findV G op = .tuple #[.agg #[.slice none 0 0, .bool false], .bool false] by simp [findV, opN, hop, opS]]
    have HW := hid hw
    clear hw hop h
    go_enter Tryz.func51, Tryz.ntmps51
    go_wp2_with (go_at_call 49; refine (within_any op 1 16 _).mono ?_; rintro e w' ⟨rfl, e1⟩; rw [e1, HW.out]; clear e1 w')
    go_returns
    exact ⟨rfl, below1 _ _⟩

/-- An instruction. -/
structure Ins where
  op : Int
  a : Int
  b : Int
  c : Int
  n : Int
  k : Int
  i : Int
  t : ByteArray

/-- As a value, and as cells. -/
def Ins.val (x : Ins) : Value := .agg #[.int .i64 x.op, .int .i64 x.a, .int .i64 x.b, .int .i64 x.c, .int .i64 x.n, .int .i64 x.k, .int .i64 x.i, .string x.t]
def Ins.cells (x : Ins) : List Value := [.int .i64 x.op, .int .i64 x.a, .int .i64 x.b, .int .i64 x.c, .int .i64 x.n, .int .i64 x.k, .int .i64 x.i, .string x.t]
abbrev io (o a b c n k i : Int) (t : ByteArray) : Obj := .cells #[.int .i64 o, .int .i64 a, .int .i64 b, .int .i64 c, .int .i64 n, .int .i64 k, .int .i64 i, .string t] 30

def Fk.get : Fk → Ins → Int
  | .a, x => x.a
  | .b, x => x.b
  | .c, x => x.c
  | .skp, x => x.a
  | .arg, x => x.n
  | .cmp, x => x.n
  | .look, x => x.n

def Fk.set : Fk → Int → Ins → Ins
  | .a, v, x => { x with a := v }
  | .b, v, x => { x with b := v }
  | .c, v, x => { x with c := v }
  | .skp, v, x => { x with a := v }
  | .arg, v, x => { x with n := v }
  | .cmp, v, x => { x with n := v }
  | .look, v, x => { x with n := v }

def Fk.part : Fk → Nat
  | .a => 74
  | .b => 75
  | .c => 76
  | .skp => 74
  | .arg => 78
  | .cmp => 78
  | .look => 78
def Fk.pos : Fk → Nat
  | .a => 1
  | .b => 2
  | .c => 3
  | .skp => 1
  | .arg => 4
  | .cmp => 4
  | .look => 4
def Fk.fit : Fk → Nat
  | .a => 116
  | .b => 116
  | .c => 116
  | .skp => 80
  | .arg => 79
  | .cmp => 81
  | .look => 82
def Fk.lay : Fk → Nat
  | .a => 117
  | .b => 117
  | .c => 117
  | _ => 119
def Fk.tak : Fk → Nat
  | .a => 118
  | .b => 118
  | .c => 118
  | _ => 120

theorem Fk.cells_eq (f : Fk) : f.cells = [fn f.part, fn f.fit, fn f.lay, fn f.tak] := by cases f <;> rfl

def Fk.fits : Fk → Int → Int → Int → Bool
  | .a, v, _, _ => withinB v 0 15
  | .b, v, _, _ => withinB v 0 15
  | .c, v, _, _ => withinB v 0 15
  | .skp, v, _, bh => withinB v 1 bh
  | .arg, v, ar, _ => withinB v 0 (wrap64 (ar - 1))
  | .cmp, v, _, _ => withinB v 1 6
  | .look, v, _, _ => withinB v 1 64

set_option maxRecDepth 100000 in
theorem part_any (f : Fk) (r : Nat) (w : World) : Calls Tryz.prog f.part #[.pointer (some ⟨r, 0, none⟩)] w fun x w' => x = .returned (.pointer (some ⟨r, f.pos, none⟩)) ∧ w' = w := by
  cases f
  all_goals dsimp only [Fk.part, Fk.pos]
  all_goals first
    | (go_enter Tryz.func74, Tryz.ntmps74; go_wp2; go_ret; exact ⟨rfl, rfl⟩)
    | (go_enter Tryz.func75, Tryz.ntmps75; go_wp2; go_ret; exact ⟨rfl, rfl⟩)
    | (go_enter Tryz.func76, Tryz.ntmps76; go_wp2; go_ret; exact ⟨rfl, rfl⟩)
    | (go_enter Tryz.func78, Tryz.ntmps78; go_wp2; go_ret; exact ⟨rfl, rfl⟩)

set_option maxRecDepth 100000 in
theorem fit_any (f : Fk) (v ar bh : Int) (w : World) : Calls Tryz.prog f.fit #[.int .i64 v, .agg #[.int .i64 ar, .int .i64 bh]] w fun x w' => x = .returned (.bool (f.fits v ar bh)) ∧ w' = w.alloc (.cells #[.int .i64 ar, .int .i64 bh] 124) := by
  cases f
  all_goals dsimp only [Fk.fit, Fk.fits]
  · go_enter Tryz.func116, Tryz.ntmps116; go_wp2_with (go_at_call 49; refine (within_any _ _ _ _).mono ?_; rintro e w' ⟨rfl, rfl⟩); go_ret; exact ⟨rfl, rfl⟩
  · go_enter Tryz.func116, Tryz.ntmps116; go_wp2_with (go_at_call 49; refine (within_any _ _ _ _).mono ?_; rintro e w' ⟨rfl, rfl⟩); go_ret; exact ⟨rfl, rfl⟩
  · go_enter Tryz.func116, Tryz.ntmps116; go_wp2_with (go_at_call 49; refine (within_any _ _ _ _).mono ?_; rintro e w' ⟨rfl, rfl⟩); go_ret; exact ⟨rfl, rfl⟩
  · go_enter Tryz.func79, Tryz.ntmps79; go_wp2_with (go_at_call 49; refine (within_any _ _ _ _).mono ?_; rintro e w' ⟨rfl, rfl⟩); go_ret; exact ⟨rfl, rfl⟩
  · go_enter Tryz.func80, Tryz.ntmps80; go_wp2_with (go_at_call 49; refine (within_any _ _ _ _).mono ?_; rintro e w' ⟨rfl, rfl⟩); go_ret; exact ⟨rfl, rfl⟩
  · go_enter Tryz.func81, Tryz.ntmps81; go_wp2_with (go_at_call 49; refine (within_any _ _ _ _).mono ?_; rintro e w' ⟨rfl, rfl⟩); go_ret; exact ⟨rfl, rfl⟩
  · go_enter Tryz.func82, Tryz.ntmps82; go_wp2_with (go_at_call 49; refine (within_any _ _ _ _).mono ?_; rintro e w' ⟨rfl, rfl⟩); go_ret; exact ⟨rfl, rfl⟩

end Go.Proofs.YthcoigbkdbkojaaGreat

namespace Go.Proofs.YthcoigbkdbkojaaGreat.V
open Go.RowKit

theorem hid {p : Prop} (h : p) : Hid p := h

/-- All blocks outside S are as they were. -/
structure Kept (S : Nat → Prop) (w w' : World) : Prop where
  os : w'.os = w.os
  tape : w'.tape = w.tape
  output : w'.output = w.output
  size : w.heap.size ≤ w'.heap.size
  block : ∀ k, k < w.heap.size → ¬ S k → w'.heap[k]? = w.heap[k]?

theorem Kept.refl (S : Nat → Prop) (w : World) : Kept S w w := ⟨rfl, rfl, rfl, Nat.le_refl _, fun _ _ _ => rfl⟩

theorem Kept.trans {S S' : Nat → Prop} {a b c : World} (h : Kept S a b) (k : Kept S' b c) (hs : ∀ i, i < a.heap.size → S' i → S i) : Kept S a c :=
  ⟨k.os.trans h.os, k.tape.trans h.tape, k.output.trans h.output, Nat.le_trans h.size k.size,
   fun i hi hn => (k.block i (Nat.lt_of_lt_of_le hi h.size) (fun hx => hn (hs i hi hx))).trans (h.block i hi hn)⟩

theorem Kept.mono {S S' : Nat → Prop} {a b : World} (h : Kept S a b) (hs : ∀ i, i < a.heap.size → S i → S' i) : Kept S' a b :=
  ⟨h.os, h.tape, h.output, h.size, fun i hi hn => h.block i hi (fun hx => hn (hs i hi hx))⟩

theorem Kept.drew {S : Nat → Prop} {a w : World} (h : Kept S a w) : Kept S a w.drew := ⟨h.os, h.tape, h.output, h.size, h.block⟩

theorem Kept.alloc {S : Nat → Prop} {a w : World} (h : Kept S a w) (o : Obj) : Kept S a (w.alloc o) :=
  h.trans (S' := fun _ => False) ⟨rfl, rfl, rfl, by simp, fun k hk _ => Below.heap_alloc _ _ _ hk⟩ (fun _ _ h => h.elim)

theorem Kept.setCell {S : Nat → Prop} {a w : World} (h : Kept S a w) {p : Addr} (hp : p.block < a.heap.size → S p.block) (u : Value) : Kept S a (w.setCell p u) :=
  h.trans (S' := fun k => k = p.block) ⟨rfl, rfl, rfl, by simp [World.setCell], fun k _ hn => Below.heap_setCell _ _ _ _ hn⟩ (fun i hi e => by subst e; exact hp hi)

theorem Kept.grown {S : Nat → Prop} {a w w' : World} {row : Option Nat} (h : Kept S a w) (hg : w.grownBy w' row) (hr : ∀ k, k < a.heap.size → row = some k → S k) : Kept S a w' :=
  h.trans (S' := fun k => row = some k) ⟨hg.os, hg.tape, hg.output, hg.size, fun k hk hn => hg.block k hk (fun e => hn e.symm)⟩ hr

theorem Kept.below {S : Nat → Prop} {a w : World} {B : Nat} (h : Kept S a w) (hB : B ≤ a.heap.size) (hs : ∀ k, k < B → ¬ S k) : Below B a w :=
  ⟨h.os, h.tape, h.output, h.size, fun k hk => h.block k (Nat.lt_of_lt_of_le hk hB) (hs k hk)⟩

theorem Kept.ofBelow {a w : World} (h : Below a.heap.size a w) : Kept (fun _ => False) a w :=
  ⟨h.os, h.tape, h.output, h.size, fun k hk _ => h.block k hk⟩

theorem Kept.cell {S : Nat → Prop} {a w : World} (h : Kept S a w) {p : Addr} {v : Value} (hc : a.cell? p = some v) (hn : ¬ S p.block) : w.cell? p = some v :=
  (World.cell?_of_block (h.block p.block (World.block_lt_of_cell? a p hc) hn)).trans hc

/-- The cells of bytes. -/
abbrev B8 (l : List Int) : List Value := l.map (Value.int .u8)

theorem Tryz.info5 : (Tryz.prog.info? 5).map (fun i => (i.zero, i.size, i.bytes)) = some (some (.int .u8 0), 1, 1) := by kernel_rfl

theorem ownsRow_kept {w w' : World} {B : Nat} {e : TypeId} {size : Nat} {v : Value} {n : Nat} {xs : List Value} {S : Nat → Prop} (h : w.ownsRow B e size v n xs) (hk : Kept S w w')
    (hn : ∀ k, v.ownBlock = some k → ¬ S k) : w'.ownsRow B e size v n xs := by
  refine ⟨h.1, ?_⟩
  rcases h.2 with hn' | ⟨g, cap, cur, rfl, hb, hgg, rest⟩
  · exact .inl hn'
  · refine .inr ⟨g, cap, cur, rfl, hb, ?_, rest⟩
    rw [hk.block g (Array.getElem?_eq_some_iff.1 hgg).1 (hn g rfl)]
    exact hgg

theorem free_of_block {w : World} {p o : Nat} {cs : Array Value} {t : TypeId} (h : w.heap[p]? = some (.cells cs t (0, 0))) : w.frozen? ⟨p, o, none⟩ = false := by
  simp [World.frozen?, h]

theorem hp_set {w : World} {g : Nat} {o : Obj} (h : w.heap[g]? = some o) {p : Addr} (hn : g ≠ p.block) (v : Value) : (w.setCell p v).heap[g]? = some o := (Below.heap_setCell _ _ _ _ hn).trans h
theorem hp_alloc {w : World} {g : Nat} {o : Obj} (h : w.heap[g]? = some o) (x : Obj) : (w.alloc x).heap[g]? = some o := (Below.heap_alloc _ _ _ (Array.getElem?_eq_some_iff.1 h).1).trans h
theorem hp_new (w : World) (x : Obj) : (w.alloc x).heap[w.heap.size]? = some x := (MapKept.heap_alloc w x).1
theorem hp_lt {w : World} {g : Nat} {o : Obj} (h : w.heap[g]? = some o) : g < w.heap.size := (Array.getElem?_eq_some_iff.1 h).1
theorem hp_below {w w' : World} {g : Nat} {o : Obj} {B : Nat} (h : w.heap[g]? = some o) (hk : Below B w w') (hg : g < B) : w'.heap[g]? = some o := (hk.block g hg).trans h
theorem hp_kept {w w' : World} {g : Nat} {o : Obj} {S : Nat → Prop} (h : w.heap[g]? = some o) (hk : Kept S w w') (hg : ¬ S g) : w'.heap[g]? = some o := (hk.block g (hp_lt h) hg).trans h
theorem undrew {B : Nat} {w w' : World} (h : Below B w.drew w') : Below B w w' := ⟨h.os, h.tape, h.output, h.size, h.block⟩
theorem Kept.undrew {S : Nat → Prop} {w w' : World} (h : Kept S w.drew w') : Kept S w w' := ⟨h.os, h.tape, h.output, h.size, h.block⟩
theorem Kept.drewN {S : Nat → Prop} {n : Nat} {w w' : World} (h : Kept S w w') : Kept S w (w'.drewN n) := ⟨h.os, h.tape, h.output, h.size, h.block⟩
theorem set_block {w : World} {p i : Nat} {c : Array Value} {t : TypeId} (h : w.heap[p]? = some (.cells c t (0, 0))) (v : Value) : (w.setCell ⟨p, i, none⟩ v).heap[p]? = some (.cells (c.setIfInBounds i v) t (0, 0)) := by
  simp [World.setCell, Array.getElem?_modify, h]
theorem cells5 {w : World} {p : Nat} {a b c d e : Value} {t : TypeId} (h : w.heap[p]? = some (.cells #[a, b, c, d, e] t (0, 0))) : w.cell? ⟨p, 0, none⟩ = some a ∧ w.cell? ⟨p, 1, none⟩ = some b ∧ w.cell? ⟨p, 2, none⟩ = some c ∧ w.cell? ⟨p, 3, none⟩ = some d ∧ w.cell? ⟨p, 4, none⟩ = some e := by
  refine ⟨?_, ?_, ?_, ?_, ?_⟩ <;> (rw [cell_of_row w p _ _ _ _ h]; rfl)
theorem cells2 {w : World} {p : Nat} {a b : Value} {t : TypeId} (h : w.heap[p]? = some (.cells #[a, b] t (0, 0))) : w.cell? ⟨p, 0, none⟩ = some a ∧ w.cell? ⟨p, 1, none⟩ = some b := by
  refine ⟨?_, ?_⟩ <;> (rw [cell_of_row w p _ _ _ _ h]; rfl)
theorem cells1 {w : World} {p : Nat} {a : Value} {t : TypeId} (h : w.heap[p]? = some (.cells #[a] t (0, 0))) : w.cell? ⟨p, 0, none⟩ = some a := by
  rw [cell_of_row w p _ _ _ _ h]; rfl
theorem cs_off {w : World} {b i j : Nat} (h : i ≠ j) (v : Value) : (w.setCell ⟨b, i, none⟩ v).cell? ⟨b, j, none⟩ = w.cell? ⟨b, j, none⟩ := World.cell?_setCell_other w _ _ v (fun e => h (by injection e))
theorem cs_blk {w : World} {p q : Nat} (h : p ≠ q) (i j : Nat) (v : Value) : (w.setCell ⟨p, i, none⟩ v).cell? ⟨q, j, none⟩ = w.cell? ⟨q, j, none⟩ := World.cell?_setCell_other w _ _ v (fun e => h (by injection e))
theorem dw_cell (W : World) (a : Addr) : W.drew.cell? a = W.cell? a := rfl

end Go.Proofs.YthcoigbkdbkojaaGreat.V

namespace Go.Proofs.YthcoigbkdbkojaaGreat.V
open Go.RowKit

/-- Is a text below another? -/
abbrev kl (a b : ByteArray) : Bool := Op.bytesLess a.toList b.toList

theorem bl_eq : ∀ (x y : List UInt8), Op.bytesLess x y = decide (x < y)
  | [], [] => by simp [Op.bytesLess]
  | _ :: _, [] => by simp [Op.bytesLess]
  | [], _ :: _ => by simp [Op.bytesLess]
  | a :: x, b :: y => by
    rw [Op.bytesLess, bl_eq x y]
    simp only [List.cons_lt_cons_iff]
    by_cases h1 : a < b <;> by_cases h2 : a = b <;> by_cases h3 : x < y <;> simp [h1, h2, h3]

theorem kl_irrefl (a : ByteArray) : kl a a = false := by simp [kl, bl_eq, List.lt_irrefl]
theorem kl_trans {a b c : ByteArray} (h1 : kl a b = true) (h2 : kl b c = true) : kl a c = true := by
  simp only [kl, bl_eq, decide_eq_true_eq] at *; exact List.lt_trans h1 h2
theorem kl_asymm {a b : ByteArray} (h1 : kl a b = true) : kl b a = false := by
  cases h : kl b a
  · rfl
  · have := kl_trans h1 h; rw [kl_irrefl] at this; exact absurd this (by simp)
theorem toList_inj {a b : ByteArray} (h : a.toList = b.toList) : a = b := by
  rw [Lib.toList_data, Lib.toList_data] at h
  cases a; cases b
  simp only [ByteArray.mk.injEq] at *
  exact Array.toList_inj.1 h
theorem kl_tri {a b : ByteArray} (h1 : kl a b = false) (h2 : kl b a = false) : a = b := by
  apply toList_inj
  simp only [kl, bl_eq, decide_eq_false_iff_not] at *
  exact List.le_antisymm (List.not_lt.1 h2) (List.not_lt.1 h1)
theorem keq_iff {a b : ByteArray} : (a.toList == b.toList) = true ↔ a = b := by
  constructor
  · intro h; exact toList_inj (by simpa using h)
  · intro h; subst h; simp
theorem keq_false {a b : ByteArray} (h : a ≠ b) : (a.toList == b.toList) = false := by
  cases e : a.toList == b.toList
  · rfl
  · exact absurd (keq_iff.1 e) h
theorem kl_ne {a b : ByteArray} (h : kl a b = true) : a ≠ b := by
  intro e; subst e; rw [kl_irrefl] at h; cases h
/-- a below b, b not above c -/
theorem kl_le {a b c : ByteArray} (h1 : kl a b = true) (h2 : kl c b = false) : kl a c = true := by
  cases h : kl b c
  · have := kl_tri h h2; subst this; exact h1
  · exact kl_trans h1 h
theorem kl_le' {a b c : ByteArray} (h1 : kl b a = false) (h2 : kl b c = true) : kl a c = true := by
  cases h : kl a b
  · have := kl_tri h h1; subst this; exact h2
  · exact kl_trans h h2

/-- A tree as plain data: a node's block, its key, what it has, the trees below and above. -/
inductive Tr where
  | nil : Tr
  | node (b : Nat) (k : ByteArray) (v : Value) (l r : Tr) : Tr

abbrev En := Nat × ByteArray × Value

def Tr.ht : Tr → Nat
  | .nil => 0
  | .node _ _ _ l r => 1 + max l.ht r.ht
def Tr.toL : Tr → List En
  | .nil => []
  | .node b k v l r => l.toL ++ (b, k, v) :: r.toL
def Tr.addr : Tr → Option Addr
  | .nil => none
  | .node b _ _ _ _ => some ⟨b, 0, none⟩
abbrev Tr.ptr (t : Tr) : Value := .pointer t.addr
def blks (l : List En) : List Nat := l.map (·.1)
def Tr.bs (t : Tr) : List Nat := blks t.toL
/-- Nodes. -/
def Tr.n (t : Tr) : Nat := t.toL.length

theorem Tr.ht_le : ∀ t : Tr, t.ht ≤ t.n
  | .nil => Nat.zero_le _
  | .node b k v l r => by
    have h1 := Tr.ht_le l
    have h2 := Tr.ht_le r
    simp only [Tr.ht, Tr.n, Tr.toL, List.length_append, List.length_cons] at *
    omega

@[simp] theorem blks_append (a b : List En) : blks (a ++ b) = blks a ++ blks b := by simp [blks]
@[simp] theorem blks_cons (x : En) (b : List En) : blks (x :: b) = x.1 :: blks b := rfl
@[simp] theorem blks_nil : blks [] = [] := rfl
theorem Tr.bs_node (b : Nat) (k : ByteArray) (v : Value) (l r : Tr) : (Tr.node b k v l r).bs = l.bs ++ b :: r.bs := by simp [Tr.bs, Tr.toL]
theorem Tr.bs_nil : Tr.nil.bs = [] := rfl

/-- A tree in the heap (T: the nodes' type). -/
def Tr.At (T : TypeId) (w : World) : Tr → Prop
  | .nil => True
  | .node b k v l r => w.heap[b]? = some (.cells #[.string k, v, l.ptr, r.ptr, .int .i64 (1 + max (l.ht : Int) r.ht)] T (0, 0)) ∧ l.At T w ∧ r.At T w

theorem Tr.At.kept {T : TypeId} {w w' : World} {S : Nat → Prop} (hk : Kept S w w') : ∀ {t : Tr}, t.At T w → (∀ k, k ∈ t.bs → ¬ S k) → t.At T w'
  | .nil, _, _ => trivial
  | .node b k v l r, h, hn => by
    rw [Tr.bs_node] at hn
    obtain ⟨h0, h1, h2⟩ := h
    refine ⟨?_, h1.kept hk (fun k hm => hn k (by simp [hm])), h2.kept hk (fun k hm => hn k (by simp [hm]))⟩
    exact (hk.block b (hp_lt h0) (hn b (by simp))).trans h0

theorem Tr.At.lt {T : TypeId} {w : World} : ∀ {t : Tr}, t.At T w → ∀ k ∈ t.bs, k < w.heap.size
  | .nil, _ => by simp [Tr.bs_nil]
  | .node b k v l r, h => by
    obtain ⟨h0, h1, h2⟩ := h
    intro k hm
    rw [Tr.bs_node] at hm
    simp only [List.mem_append, List.mem_cons] at hm
    rcases hm with hm | rfl | hm
    · exact h1.lt k hm
    · exact hp_lt h0
    · exact h2.lt k hm

theorem Tr.At.heap {T : TypeId} {w w' : World} (e : w'.heap = w.heap) : ∀ {t : Tr}, t.At T w → t.At T w'
  | .nil, _ => trivial
  | .node _ _ _ _ _, h => ⟨by rw [e]; exact h.1, h.2.1.heap e, h.2.2.heap e⟩

/-- What a block of the tree is. -/
theorem Tr.At.blk {T : TypeId} {w : World} : ∀ {t : Tr}, t.At T w → ∀ e ∈ t.toL, ∃ p q h, w.heap[e.1]? = some (.cells #[.string e.2.1, e.2.2, p, q, .int .i64 h] T (0, 0))
  | .nil, _ => by simp [Tr.toL]
  | .node b k v l r, h => by
    obtain ⟨h0, h1, h2⟩ := h
    intro e hm
    simp only [Tr.toL, List.mem_append, List.mem_cons] at hm
    rcases hm with hm | rfl | hm
    · exact h1.blk e hm
    · exact ⟨_, _, _, h0⟩
    · exact h2.blk e hm

/-- Keys rise. -/
def Rises (l : List En) : Prop := l.Pairwise (fun a b => kl a.2.1 b.2.1 = true)

/-- The first parts: those not above (strictly below or the same) ... where a new entry goes. -/
def ins (x : En) (l : List En) : List En := l.takeWhile (fun e => !kl x.2.1 e.2.1) ++ x :: l.dropWhile (fun e => !kl x.2.1 e.2.1)

theorem tw_all {α : Type} {p : α → Bool} : ∀ {l : List α} (m : List α), (∀ x ∈ l, p x = true) → (l ++ m).takeWhile p = l ++ m.takeWhile p ∧ (l ++ m).dropWhile p = m.dropWhile p
  | [], _, _ => ⟨rfl, rfl⟩
  | a :: l, m, h => by
    have ha := h a (by simp)
    obtain ⟨h1, h2⟩ := tw_all (l := l) m (fun x hx => h x (by simp [hx]))
    simp [ha, h1, h2]

theorem tw_stop {α : Type} {p : α → Bool} {x : α} (hx : p x = false) (m : List α) : ∀ (l : List α), (l ++ x :: m).takeWhile p = l.takeWhile p ∧ (l ++ x :: m).dropWhile p = l.dropWhile p ++ x :: m
  | [] => by simp [List.takeWhile, List.dropWhile, hx]
  | a :: l => by
    obtain ⟨h1, h2⟩ := tw_stop hx m l
    cases ha : p a <;> simp [List.takeWhile, List.dropWhile, ha, h1, h2]

theorem ins_low {x c : En} {l r : List En} (h : kl x.2.1 c.2.1 = true) : ins x (l ++ c :: r) = ins x l ++ c :: r := by
  obtain ⟨h1, h2⟩ := tw_stop (p := fun e : En => !kl x.2.1 e.2.1) (x := c) (by simp [h]) r l
  simp only [ins, h1, h2, List.append_assoc, List.cons_append]

theorem ins_high {x c : En} {l r : List En} (hs : Rises (l ++ c :: r)) (h : kl x.2.1 c.2.1 = false) : ins x (l ++ c :: r) = l ++ c :: ins x r := by
  have hl : ∀ e ∈ l, (fun e : En => !kl x.2.1 e.2.1) e = true := by
    intro e he
    have : kl e.2.1 c.2.1 = true := (List.pairwise_append.1 hs).2.2 e he c (by simp)
    have h3 := kl_le this h
    simp [kl_asymm h3]
  obtain ⟨h1, h2⟩ := tw_all (p := fun e : En => !kl x.2.1 e.2.1) (c :: r) hl
  simp only [ins, h1, h2, List.takeWhile, List.dropWhile, h, Bool.not_false, List.append_assoc, List.cons_append]

theorem ins_perm (x : En) (l : List En) : (ins x l).Perm (x :: l) := by
  unfold ins
  exact (List.perm_middle).trans (by rw [List.takeWhile_append_dropWhile])

theorem ins_nil (x : En) : ins x [] = [x] := rfl

theorem blks_ins (x : En) (l : List En) : (blks (ins x l)).Perm (x.1 :: blks l) := (ins_perm x l).map (fun e : En => e.1)

theorem mem_blks_ins {x : En} {l : List En} {k : Nat} : k ∈ blks (ins x l) ↔ k = x.1 ∨ k ∈ blks l := by
  rw [(blks_ins x l).mem_iff]; simp

/-- The entry of a key. -/
def ent (k : ByteArray) (l : List En) : Option En := l.find? (fun e => e.2.1.toList == k.toList)
/-- Without a key. -/
def del (k : ByteArray) (l : List En) : List En := l.filter (fun e => !(e.2.1.toList == k.toList))

end Go.Proofs.YthcoigbkdbkojaaGreat.V
