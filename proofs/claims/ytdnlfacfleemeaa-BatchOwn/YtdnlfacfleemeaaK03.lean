import Derived.Test.YtdnlfacfleemeaaK02
import Derived.Deep.Cut
import Derived.Laws.EntriesVeiled
namespace Go.Proofs.Ytdnlfacfleemeaa
open Go.RowKit

theorem cutG {A : Type} {F : A → World → Prop} {a : A} {w : World} (I : World → Prop) (h : I w) (k : ∀ w', I w' → F a w') : F a w := k w h

/-- The kinds of fields. -/
inductive Fk where
  | a | b | c | arg | skp | cmp | look

abbrev fn (k : Nat) : Value := .func (.func k) #[] #[]

/-- A field in memory. -/
def Fk.cells : Fk → List Value
  | .a => [fn 58, fn 75, fn 76, fn 77]
  | .b => [fn 59, fn 75, fn 76, fn 77]
  | .c => [fn 60, fn 75, fn 76, fn 77]
  | .arg => [fn 62, fn 63, fn 16, fn 46]
  | .skp => [fn 58, fn 64, fn 16, fn 46]
  | .cmp => [fn 62, fn 65, fn 16, fn 46]
  | .look => [fn 62, fn 66, fn 16, fn 46]

/-- A field's own block. -/
def F4 (w : World) (r : Nat) (f : Fk) : Prop := w.heap[r]? = some (.cells f.cells.toArray 125 (0, 0))

theorem F4.below {w w' : World} {r : Nat} {f : Fk} (h : F4 w r f) (hb : Below w.heap.size w w') : F4 w' r f := blk_of hb h (lt_of h)

set_option maxRecDepth 100000 in
theorem register_any (k : Nat) (w : World) : Calls Try.prog 57 #[fn k] w fun x w' => x = .returned (.agg #[fn k, fn 75, fn 76, fn 77]) ∧ w' = w.alloc (.cells #[fn k, fn 75, fn 76, fn 77] 125) := by
  go_enter Try.func57, Try.ntmps57
  go_wp2
  go_returns
  exact ⟨rfl, rfl⟩

set_option maxRecDepth 100000 in
theorem number_any (k l : Nat) (w : World) : Calls Try.prog 61 #[fn k, fn l] w fun x w' => x = .returned (.agg #[fn k, fn l, fn 16, fn 46]) ∧ w' = w.alloc (.cells #[fn k, fn l, fn 16, fn 46] 125) := by
  go_enter Try.func61, Try.ntmps61
  go_wp2
  go_returns
  exact ⟨rfl, rfl⟩

/-- The fields of each operation. -/
def opF : Nat → List Fk
  | 1 => [.a]
  | 2 => [.a, .arg]
  | 3 => [.a, .b]
  | 4 => [.a, .b]
  | 5 => [.a]
  | 6 => [.a, .b, .c]
  | 7 => [.a, .b, .c]
  | 8 => [.a, .b, .c]
  | 9 => [.a, .b, .c]
  | 10 => [.b, .c, .cmp]
  | 11 => [.skp, .b, .c, .cmp]
  | 12 => [.a, .b, .c, .look]
  | 13 => [.a, .b, .c, .look]
  | 14 => [.a, .b]
  | 15 => [.a]
  | _ => []

def fsCells (fs : List Fk) : Array Value := (fs.flatMap Fk.cells).toArray

/-- An operation's list of fields, as a value. -/
def opS (G i : Nat) : Value := if 1 ≤ i ∧ i ≤ 15 then .slice (some ⟨G + (i - 1), 0, none⟩) (opF i).length (opF i).length else .slice none 0 0

def tblL (G : Nat) : List Value := (List.range 17).flatMap fun i => [opS G i, .bool (i == 1)]

/-- The table of operations in memory. -/
structure Tbl (w : World) (G : Nat) : Prop where
  tb : w.heap[G + 15]? = some (.cells (tblL G).toArray 97 (0, 0))
  fb : ∀ i, 1 ≤ i → i ≤ 15 → w.heap[G + (i - 1)]? = some (.cells (fsCells (opF i)) 125 (0, 0))

theorem Tbl.below {w w' : World} {G : Nat} (h : Tbl w G) (hb : Below w.heap.size w w') : Tbl w' G :=
  ⟨blk_of hb h.tb (lt_of h.tb), fun i h1 h2 => blk_of hb (h.fb i h1 h2) (lt_of (h.fb i h1 h2))⟩

theorem Tbl.kept {w w' : World} {G : Nat} {S : Nat → Prop} (h : Tbl w G) (hk : Kept S w w') (hs : ∀ k, G ≤ k → k ≤ G + 15 → ¬ S k) : Tbl w' G :=
  ⟨(hk.block _ (lt_of h.tb) (hs _ (by omega) (by omega))).trans h.tb, fun i h1 h2 => (hk.block _ (lt_of (h.fb i h1 h2)) (hs _ (by omega) (by omega))).trans (h.fb i h1 h2)⟩

def allocs (w : World) (l : List Obj) : World := l.foldl World.alloc w

theorem allocs_size (l : List Obj) : ∀ w : World, (allocs w l).heap.size = w.heap.size + l.length := by
  induction l with
  | nil => intro w; rfl
  | cons o l ih => intro w; show (allocs (w.alloc o) l).heap.size = _; rw [ih]; simp; omega

theorem allocs_below (l : List Obj) : ∀ w : World, Below w.heap.size w (allocs w l) := by
  induction l with
  | nil => intro w; exact Below.refl _ _
  | cons o l ih => intro w; exact (below1 w o).trans ((ih (w.alloc o)).mono (by simp))

theorem allocs_at (l : List Obj) : ∀ (w : World) (j : Nat) (o : Obj), l[j]? = some o → (allocs w l).heap[w.heap.size + j]? = some o := by
  induction l with
  | nil => intro w j o h; simp at h
  | cons x l ih =>
    intro w j o h
    cases j with
    | zero =>
      simp at h
      subst h
      exact blk_of (allocs_below l (w.alloc x)) (heap_alloc_new w x) (by simp)
    | succ j =>
      have := ih (w.alloc x) j o (by simpa using h)
      show (allocs (w.alloc x) l).heap[w.heap.size + (j + 1)]? = some o
      simpa [Nat.add_assoc, Nat.add_comm 1 j] using this

def opObjs (G : Nat) : List Obj :=
  [.cells (fsCells [.a]) 125, .cells (fsCells [.b]) 125, .cells (fsCells [.c]) 125, .cells (fsCells [.a]) 125, .cells (fsCells [.b]) 125, .cells (fsCells [.c]) 125,
   .cells (fsCells [.arg]) 125, .cells (fsCells [.skp]) 125, .cells (fsCells [.arg]) 125, .cells (fsCells [.skp]) 125,
   .cells (fsCells [.cmp]) 125, .cells (fsCells [.look]) 125, .cells (fsCells [.cmp]) 125, .cells (fsCells [.look]) 125] ++
  ((List.range 15).map fun i => .cells (fsCells (opF (i + 1))) 125) ++ [.cells (tblL G).toArray 97]

theorem tbl_of (w : World) : Tbl (allocs w (opObjs (w.heap.size + 14))) (w.heap.size + 14) := by
  refine ⟨?_, ?_⟩
  · have := allocs_at (opObjs (w.heap.size + 14)) w 29 _ rfl
    simpa [Nat.add_assoc] using this
  · intro i h1 h2
    obtain ⟨j, rfl⟩ : ∃ j, i = j + 1 := ⟨i - 1, by omega⟩
    have hj : (opObjs (w.heap.size + 14))[14 + j]? = some (.cells (fsCells (opF (j + 1))) 125) := by
      rcases (show j = 0 ∨ j = 1 ∨ j = 2 ∨ j = 3 ∨ j = 4 ∨ j = 5 ∨ j = 6 ∨ j = 7 ∨ j = 8 ∨ j = 9 ∨ j = 10 ∨ j = 11 ∨ j = 12 ∨ j = 13 ∨ j = 14 by omega) with
        rfl | rfl | rfl | rfl | rfl | rfl | rfl | rfl | rfl | rfl | rfl | rfl | rfl | rfl | rfl <;> rfl
    have := allocs_at (opObjs (w.heap.size + 14)) w (14 + j) _ hj
    simpa [Nat.add_assoc] using this

/-- What operations() leaves. -/
def OpsPost (w : World) (x : Ending) (w' : World) : Prop := ∃ G, x = .returned (.slice (some ⟨G + 15, 0, none⟩) 17 17) ∧ Tbl w' G ∧ w.heap.size ≤ G ∧ Below w.heap.size w w'

theorem ops_end (w : World) : OpsPost w (.returned (.slice (some ⟨w.heap.size + 14 + 15, 0, none⟩) 17 17)) (allocs w (opObjs (w.heap.size + 14))) :=
  ⟨_, rfl, tbl_of w, by omega, allocs_below _ w⟩

set_option maxRecDepth 100000 in
set_option maxHeartbeats 4000000 in
theorem operations_any (w : World) : Calls Try.prog 41 #[] w (OpsPost w) := by
  have r1 := register_any 58
  have r2 := register_any 59
  have r3 := register_any 60
  have R1 := hid r1
  have R2 := hid r2
  have R3 := hid r3
  clear r1 r2 r3
  have HE := hid (ops_end w)
  go_enter Try.func41, Try.ntmps41
  go_wp2_with (first
    | (go_at_call 57
       first
       | (refine (R1.out _).mono ?_)
       | (refine (R2.out _).mono ?_)
       | (refine (R3.out _).mono ?_)
       rintro e w' ⟨rfl, rfl⟩)
    | (go_at_call 61
       refine (number_any _ _ _).mono ?_
       rintro e w' ⟨rfl, rfl⟩))
  go_ret
  exact HE.out

end Go.Proofs.Ytdnlfacfleemeaa

namespace Go.Proofs.Ytdnlfacfleemeaa
open Go.RowKit

/-- Which operation a number is: 0: none. -/
def opN (op : Int) : Nat := if 1 ≤ op ∧ op ≤ 16 then op.toNat else 0

def findV (G : Nat) (op : Int) : Value := .tuple #[.agg #[opS G (opN op), .bool (opN op == 1)], .bool (decide (1 ≤ op ∧ op ≤ 16))]

theorem opS_form (G i : Nat) : ∃ ao n c, opS G i = .slice ao n c := by unfold opS; split <;> exact ⟨_, _, _, rfl⟩

theorem tblL_len (G : Nat) : (tblL G).length = 34 := rfl

theorem tbl_cells {w : World} {G : Nat} (h : Tbl w G) (i : Nat) (hi : i < 17) : w.cell? ⟨G + 15, i * 2, none⟩ = some (opS G i) ∧ w.cell? ⟨G + 15, i * 2 + 1, none⟩ = some (.bool (i == 1)) := by
  rw [cell_of_row w _ _ _ _ _ h.tb, cell_of_row w _ _ _ _ _ h.tb]
  rcases (show i = 0 ∨ i = 1 ∨ i = 2 ∨ i = 3 ∨ i = 4 ∨ i = 5 ∨ i = 6 ∨ i = 7 ∨ i = 8 ∨ i = 9 ∨ i = 10 ∨ i = 11 ∨ i = 12 ∨ i = 13 ∨ i = 14 ∨ i = 15 ∨ i = 16 by omega) with
    rfl | rfl | rfl | rfl | rfl | rfl | rfl | rfl | rfl | rfl | rfl | rfl | rfl | rfl | rfl | rfl | rfl <;> exact ⟨rfl, rfl⟩

set_option maxRecDepth 100000 in
set_option maxHeartbeats 800000 in
theorem find_any (G : Nat) (op : Int) (w : World) (h : Tbl w G) :
    Calls Try.prog 42 #[.slice (some ⟨G + 15, 0, none⟩) 17 17, .int .i64 op] w fun x w' => x = .returned (findV G op) ∧ Below w.heap.size w w' := by
  by_cases hop : 1 ≤ op ∧ op ≤ 16
  · have hw : withinB op 1 16 = true := by simp [withinB, hop]
    obtain ⟨i, rfl⟩ : ∃ i : Nat, op = i := ⟨op.toNat, by omega⟩
    have hn : opN i = i := by simp [opN, hop]
    have hi : i < 17 := by omega
    obtain ⟨c1, c2⟩ := tbl_cells h i hi
    obtain ⟨ao, n, c, hs⟩ := opS_form G i
    have hz := lt_of h.tb
    rw [show findV G i = .tuple #[.agg #[.slice ao n c, .bool (i == 1)], .bool true] by rw [findV, hn, hs]; simp [hop]]
    rw [hs] at c1
    obtain ⟨q, hq⟩ : ∃ q, q = (i == 1) := ⟨_, rfl⟩
    rw [← hq] at c2 ⊢
    have HW := hid hw
    have hi0 : (0 : Int) ≤ (i : Int) := by omega
    have hi1 : (i : Int) < 17 := by omega
    clear hs hn hop hw h hq
    go_enter Try.func42, Try.ntmps42
    go_wp2_with (go_at_call 55; refine (within_any (i : Int) 1 16 _).mono ?_; rintro e w' ⟨rfl, e1⟩; rw [e1, HW.out]; clear e1 w')
    go_returns
    exact ⟨rfl, below1 _ _⟩
  · have hw : withinB op 1 16 = false := by simp [withinB]; omega
    rw [show findV G op = .tuple #[.agg #[.slice none 0 0, .bool false], .bool false] by simp [findV, opN, hop, opS]]
    have HW := hid hw
    clear hw hop h
    go_enter Try.func42, Try.ntmps42
    go_wp2_with (go_at_call 55; refine (within_any op 1 16 _).mono ?_; rintro e w' ⟨rfl, e1⟩; rw [e1, HW.out]; clear e1 w')
    go_returns
    exact ⟨rfl, below1 _ _⟩

/-- An instruction. -/
structure Ins where
  op : Int
  a : Int
  b : Int
  c : Int
  n : Int
  k : Int
  i : Int
  t : ByteArray

/-- As a value, and as cells. -/
def Ins.val (x : Ins) : Value := .agg #[.int .i64 x.op, .int .i64 x.a, .int .i64 x.b, .int .i64 x.c, .int .i64 x.n, .int .i64 x.k, .int .i64 x.i, .string x.t]
def Ins.cells (x : Ins) : List Value := [.int .i64 x.op, .int .i64 x.a, .int .i64 x.b, .int .i64 x.c, .int .i64 x.n, .int .i64 x.k, .int .i64 x.i, .string x.t]
abbrev io (o a b c n k i : Int) (t : ByteArray) : Obj := .cells #[.int .i64 o, .int .i64 a, .int .i64 b, .int .i64 c, .int .i64 n, .int .i64 k, .int .i64 i, .string t] 52

def Fk.get : Fk → Ins → Int
  | .a, x => x.a
  | .b, x => x.b
  | .c, x => x.c
  | .skp, x => x.a
  | .arg, x => x.n
  | .cmp, x => x.n
  | .look, x => x.n

def Fk.set : Fk → Int → Ins → Ins
  | .a, v, x => { x with a := v }
  | .b, v, x => { x with b := v }
  | .c, v, x => { x with c := v }
  | .skp, v, x => { x with a := v }
  | .arg, v, x => { x with n := v }
  | .cmp, v, x => { x with n := v }
  | .look, v, x => { x with n := v }

def Fk.part : Fk → Nat
  | .a => 58
  | .b => 59
  | .c => 60
  | .skp => 58
  | .arg => 62
  | .cmp => 62
  | .look => 62
def Fk.pos : Fk → Nat
  | .a => 1
  | .b => 2
  | .c => 3
  | .skp => 1
  | .arg => 4
  | .cmp => 4
  | .look => 4
def Fk.fit : Fk → Nat
  | .a => 75
  | .b => 75
  | .c => 75
  | .skp => 64
  | .arg => 63
  | .cmp => 65
  | .look => 66
def Fk.lay : Fk → Nat
  | .a => 76
  | .b => 76
  | .c => 76
  | _ => 16
def Fk.tak : Fk → Nat
  | .a => 77
  | .b => 77
  | .c => 77
  | _ => 46

theorem Fk.cells_eq (f : Fk) : f.cells = [fn f.part, fn f.fit, fn f.lay, fn f.tak] := by cases f <;> rfl

def Fk.fits : Fk → Int → Int → Int → Bool
  | .a, v, _, _ => withinB v 0 15
  | .b, v, _, _ => withinB v 0 15
  | .c, v, _, _ => withinB v 0 15
  | .skp, v, _, bh => withinB v 1 bh
  | .arg, v, ar, _ => withinB v 0 (wrap64 (ar - 1))
  | .cmp, v, _, _ => withinB v 1 6
  | .look, v, _, _ => withinB v 1 64

set_option maxRecDepth 100000 in
theorem part_any (f : Fk) (r : Nat) (w : World) : Calls Try.prog f.part #[.pointer (some ⟨r, 0, none⟩)] w fun x w' => x = .returned (.pointer (some ⟨r, f.pos, none⟩)) ∧ w' = w := by
  cases f
  all_goals dsimp only [Fk.part, Fk.pos]
  all_goals first
    | (go_enter Try.func58, Try.ntmps58; go_wp2; go_ret; exact ⟨rfl, rfl⟩)
    | (go_enter Try.func59, Try.ntmps59; go_wp2; go_ret; exact ⟨rfl, rfl⟩)
    | (go_enter Try.func60, Try.ntmps60; go_wp2; go_ret; exact ⟨rfl, rfl⟩)
    | (go_enter Try.func62, Try.ntmps62; go_wp2; go_ret; exact ⟨rfl, rfl⟩)

set_option maxRecDepth 100000 in
theorem fit_any (f : Fk) (v ar bh : Int) (w : World) : Calls Try.prog f.fit #[.int .i64 v, .agg #[.int .i64 ar, .int .i64 bh]] w fun x w' => x = .returned (.bool (f.fits v ar bh)) ∧ w' = w.alloc (.cells #[.int .i64 ar, .int .i64 bh] 119) := by
  cases f
  all_goals dsimp only [Fk.fit, Fk.fits]
  · go_enter Try.func75, Try.ntmps75; go_wp2_with (go_at_call 55; refine (within_any _ _ _ _).mono ?_; rintro e w' ⟨rfl, rfl⟩); go_ret; exact ⟨rfl, rfl⟩
  · go_enter Try.func75, Try.ntmps75; go_wp2_with (go_at_call 55; refine (within_any _ _ _ _).mono ?_; rintro e w' ⟨rfl, rfl⟩); go_ret; exact ⟨rfl, rfl⟩
  · go_enter Try.func75, Try.ntmps75; go_wp2_with (go_at_call 55; refine (within_any _ _ _ _).mono ?_; rintro e w' ⟨rfl, rfl⟩); go_ret; exact ⟨rfl, rfl⟩
  · go_enter Try.func63, Try.ntmps63; go_wp2_with (go_at_call 55; refine (within_any _ _ _ _).mono ?_; rintro e w' ⟨rfl, rfl⟩); go_ret; exact ⟨rfl, rfl⟩
  · go_enter Try.func64, Try.ntmps64; go_wp2_with (go_at_call 55; refine (within_any _ _ _ _).mono ?_; rintro e w' ⟨rfl, rfl⟩); go_ret; exact ⟨rfl, rfl⟩
  · go_enter Try.func65, Try.ntmps65; go_wp2_with (go_at_call 55; refine (within_any _ _ _ _).mono ?_; rintro e w' ⟨rfl, rfl⟩); go_ret; exact ⟨rfl, rfl⟩
  · go_enter Try.func66, Try.ntmps66; go_wp2_with (go_at_call 55; refine (within_any _ _ _ _).mono ?_; rintro e w' ⟨rfl, rfl⟩); go_ret; exact ⟨rfl, rfl⟩

end Go.Proofs.Ytdnlfacfleemeaa

namespace Go.Proofs.Ytdnlfacfleemeaa
open Go.RowKit

/-- A list of fields in memory. -/
def FsAt (w : World) (S : Value) (fs : List Fk) : Prop := ∃ ao, S = .slice ao fs.length fs.length ∧ (fs ≠ [] → ∃ b, ao = some ⟨b, 0, none⟩ ∧ w.heap[b]? = some (.cells (fsCells fs) 125 (0, 0)))

theorem FsAt.below {w w' : World} {S : Value} {fs : List Fk} (h : FsAt w S fs) (hb : Below w.heap.size w w') : FsAt w' S fs := by
  obtain ⟨ao, h1, h2⟩ := h
  refine ⟨ao, h1, fun hn => ?_⟩
  obtain ⟨b, h3, h4⟩ := h2 hn
  exact ⟨b, h3, blk_of hb h4 (lt_of h4)⟩

theorem Tbl.fs {w : World} {G : Nat} (h : Tbl w G) (i : Nat) : FsAt w (opS G i) (opF i) := by
  unfold opS
  by_cases hi : 1 ≤ i ∧ i ≤ 15
  · rw [if_pos hi]
    exact ⟨_, rfl, fun _ => ⟨_, rfl, h.fb i hi.1 hi.2⟩⟩
  · rw [if_neg hi]
    have : opF i = [] := by
      unfold opF
      split <;> first | rfl | (exfalso; omega)
    rw [this]
    exact ⟨none, rfl, fun h => absurd rfl h⟩

theorem fsl_at : ∀ (fs : List Fk) (j : Nat) (f : Fk), fs[j]? = some f → (fs.flatMap Fk.cells)[j * 4]? = some (fn f.part) ∧ (fs.flatMap Fk.cells)[j * 4 + 1]? = some (fn f.fit) ∧ (fs.flatMap Fk.cells)[j * 4 + 2]? = some (fn f.lay) ∧ (fs.flatMap Fk.cells)[j * 4 + 3]? = some (fn f.tak) := by
  intro fs
  induction fs with
  | nil => intro j f h; simp at h
  | cons g fs ih =>
    intro j f h
    rw [List.flatMap_cons, Fk.cells_eq]
    cases j with
    | zero => simp at h; subst h; exact ⟨rfl, rfl, rfl, rfl⟩
    | succ j =>
      obtain ⟨a, b, c, d⟩ := ih j f (by simpa using h)
      rw [show (j + 1) * 4 = j * 4 + 4 by omega, show j * 4 + 4 + 1 = j * 4 + 1 + 4 by omega, show j * 4 + 4 + 2 = j * 4 + 2 + 4 by omega, show j * 4 + 4 + 3 = j * 4 + 3 + 4 by omega]
      exact ⟨by simpa using a, by simpa using b, by simpa using c, by simpa using d⟩

theorem fs_at {w : World} {b : Nat} {fs : List Fk} (h : w.heap[b]? = some (.cells (fsCells fs) 125 (0, 0))) (j : Nat) (f : Fk) (hf : fs[j]? = some f) :
    w.cell? ⟨b, j * 4, none⟩ = some (fn f.part) ∧ w.cell? ⟨b, j * 4 + 1, none⟩ = some (fn f.fit) ∧ w.cell? ⟨b, j * 4 + 2, none⟩ = some (fn f.lay) ∧ w.cell? ⟨b, j * 4 + 3, none⟩ = some (fn f.tak) := by
  obtain ⟨x, y, z, u⟩ := fsl_at fs j f hf
  refine ⟨?_, ?_, ?_, ?_⟩ <;> (rw [cell_of_row w _ _ _ _ _ h]; simpa [fsCells])

theorem vfacts8 {w : World} {r : Nat} {a b c d e f g h : Value} {t : TypeId} (hh : w.heap[r]? = some (.cells #[a, b, c, d, e, f, g, h] t (0, 0))) :
    w.cell? ⟨r, 0, none⟩ = some a ∧ w.cell? ⟨r, 1, none⟩ = some b ∧ w.cell? ⟨r, 2, none⟩ = some c ∧ w.cell? ⟨r, 3, none⟩ = some d ∧ w.cell? ⟨r, 4, none⟩ = some e ∧ w.cell? ⟨r, 5, none⟩ = some f ∧ w.cell? ⟨r, 6, none⟩ = some g ∧ w.cell? ⟨r, 7, none⟩ = some h ∧ ∀ o, w.frozen? ⟨r, o, none⟩ = false := by
  refine ⟨?_, ?_, ?_, ?_, ?_, ?_, ?_, ?_, fun o => by simp [World.frozen?, hh]⟩ <;> (rw [cell_of_row w _ _ _ _ _ hh]; rfl)

theorem wfacts2 {w : World} {r : Nat} {a b : Value} {t : TypeId} (h : w.heap[r]? = some (.cells #[a, b] t (0, 0))) :
    w.cell? ⟨r, 0, none⟩ = some a ∧ w.cell? ⟨r, 1, none⟩ = some b ∧ ∀ o, w.frozen? ⟨r, o, none⟩ = false := by
  refine ⟨?_, ?_, fun o => by simp [World.frozen?, h]⟩ <;> (rw [cell_of_row w _ _ _ _ _ h]; rfl)

/-- Field by field: each fits, and is struck out. -/
def chkF (ar bh : Int) : List Fk → Ins → Option Ins
  | [], y => some y
  | f :: fs, y => if f.fits (f.get y) ar bh = true then chkF ar bh fs (f.set 0 y) else none

/-- The error of an instruction. -/
def opErr (fs : List Fk) (vv : Bool) (x : Ins) (ar bh : Int) : Int :=
  match chkF ar bh fs x with
  | none => 16
  | some y => if y.a = 0 ∧ y.b = 0 ∧ y.c = 0 ∧ y.n = 0 ∧ (vv = true ∨ y.k = 0 ∧ y.i = 0 ∧ y.t = emp) then chk x.k x.i x.t else 16

/-- While it is checked. -/
structure Chs (w W : World) (S : Value) (vv : Bool) (x y : Ins) (ar bh : Int) : Prop where
  r0 : W.heap[w.heap.size]? = some (.cells #[S, .bool vv] 97 (0, 0))
  r1 : W.heap[w.heap.size + 1]? = some (io x.op x.a x.b x.c x.n x.k x.i x.t)
  r2 : W.heap[w.heap.size + 1 + 1]? = some (.cells #[.int .i64 ar, .int .i64 bh] 119 (0, 0))
  r3 : W.heap[w.heap.size + 1 + 1 + 1]? = some (io 0 y.a y.b y.c y.n y.k y.i y.t)
  hb : Below w.heap.size w W

theorem Chs.below {w W W' : World} {S : Value} {vv : Bool} {x y : Ins} {ar bh : Int} (h : Chs w W S vv x y ar bh) (hb : Below W.heap.size W W') : Chs w W' S vv x y ar bh :=
  ⟨blk_of hb h.r0 (lt_of h.r0), blk_of hb h.r1 (lt_of h.r1), blk_of hb h.r2 (lt_of h.r2), blk_of hb h.r3 (lt_of h.r3), below_on h.hb hb⟩

theorem Chs.put {w W : World} {S : Value} {vv : Bool} {x y y' : Ins} {ar bh : Int} (h : Chs w W S vv x y ar bh) (o : Nat) (v : Value)
    (hp : (W.setCell ⟨w.heap.size + 1 + 1 + 1, o, none⟩ v).heap[w.heap.size + 1 + 1 + 1]? = some (io 0 y'.a y'.b y'.c y'.n y'.k y'.i y'.t)) : Chs w (W.setCell ⟨w.heap.size + 1 + 1 + 1, o, none⟩ v) S vv x y' ar bh := by
  have hk : ∀ k, k ≠ w.heap.size + 1 + 1 + 1 → (W.setCell ⟨w.heap.size + 1 + 1 + 1, o, none⟩ v).heap[k]? = W.heap[k]? := fun k hk => Below.heap_setCell _ _ _ _ hk
  refine ⟨?_, ?_, ?_, hp, h.hb.setCell (p := ⟨w.heap.size + 1 + 1 + 1, o, none⟩) (by show w.heap.size ≤ w.heap.size + 1 + 1 + 1; omega) v⟩
  · rw [hk _ (by omega)]; exact h.r0
  · rw [hk _ (by omega)]; exact h.r1
  · rw [hk _ (by omega)]; exact h.r2

theorem chs_set3 {w W : World} {S : Value} {vv : Bool} {x y : Ins} {ar bh : Int} (h : Chs w W S vv x y ar bh) (a b c : Value) :
    Below w.heap.size w (((W.setCell ⟨w.heap.size + 1 + 1 + 1, 5, none⟩ a).setCell ⟨w.heap.size + 1 + 1 + 1, 6, none⟩ b).setCell ⟨w.heap.size + 1 + 1 + 1, 7, none⟩ c) := by
  have hz : w.heap.size ≤ w.heap.size + 1 + 1 + 1 := by omega
  exact ((h.hb.setCell (p := ⟨w.heap.size + 1 + 1 + 1, 5, none⟩) hz a).setCell (p := ⟨w.heap.size + 1 + 1 + 1, 6, none⟩) hz b).setCell (p := ⟨w.heap.size + 1 + 1 + 1, 7, none⟩) hz c

theorem chs_start (w : World) (S : Value) (vv : Bool) (x : Ins) (ar bh : Int) :
    Chs w ((((w.alloc (.cells #[S, .bool vv] 97)).alloc (io x.op x.a x.b x.c x.n x.k x.i x.t)).alloc (.cells #[.int .i64 ar, .int .i64 bh] 119)).alloc (io 0 x.a x.b x.c x.n x.k x.i x.t)) S vv x x ar bh := by
  have h := allocs_at [.cells #[S, .bool vv] 97, io x.op x.a x.b x.c x.n x.k x.i x.t, .cells #[.int .i64 ar, .int .i64 bh] 119, io 0 x.a x.b x.c x.n x.k x.i x.t] w
  exact ⟨h 0 _ rfl, h 1 _ rfl, h 2 _ rfl, h 3 _ rfl, allocs_below [.cells #[S, .bool vv] 97, io x.op x.a x.b x.c x.n x.k x.i x.t, .cells #[.int .i64 ar, .int .i64 bh] 119, io 0 x.a x.b x.c x.n x.k x.i x.t] w⟩

theorem io_set1 {w : World} {r : Nat} {o a b c n k i : Int} {t : ByteArray} (h : w.heap[r]? = some (io o a b c n k i t)) (v : Int) : (w.setCell ⟨r, 1, none⟩ (.int .i64 v)).heap[r]? = some (io o v b c n k i t) := by
  simp [World.setCell, Array.getElem?_modify, h]
theorem io_set2 {w : World} {r : Nat} {o a b c n k i : Int} {t : ByteArray} (h : w.heap[r]? = some (io o a b c n k i t)) (v : Int) : (w.setCell ⟨r, 2, none⟩ (.int .i64 v)).heap[r]? = some (io o a v c n k i t) := by
  simp [World.setCell, Array.getElem?_modify, h]
theorem io_set3 {w : World} {r : Nat} {o a b c n k i : Int} {t : ByteArray} (h : w.heap[r]? = some (io o a b c n k i t)) (v : Int) : (w.setCell ⟨r, 3, none⟩ (.int .i64 v)).heap[r]? = some (io o a b v n k i t) := by
  simp [World.setCell, Array.getElem?_modify, h]
theorem io_set4 {w : World} {r : Nat} {o a b c n k i : Int} {t : ByteArray} (h : w.heap[r]? = some (io o a b c n k i t)) (v : Int) : (w.setCell ⟨r, 4, none⟩ (.int .i64 v)).heap[r]? = some (io o a b c v k i t) := by
  simp [World.setCell, Array.getElem?_modify, h]

theorem chs_more2 {w W : World} {S : Value} {vv : Bool} {x y : Ins} {ar bh : Int} (h : Chs w W S vv x y ar bh) (o p : Obj) : Chs w (((W.alloc o).alloc p).drew) S vv x y ar bh := by
  have h2 := h.below (below2 W o p)
  exact ⟨h2.r0, h2.r1, h2.r2, h2.r3, ⟨h2.hb.os, h2.hb.tape, h2.hb.output, h2.hb.size, h2.hb.block⟩⟩

theorem chs_more' {w W : World} {S : Value} {vv : Bool} {x y : Ins} {ar bh : Int} (h : Chs w W S vv x y ar bh) (o p : Obj) (m : Nat) : Chs w (((W.alloc o).drewN m).alloc p) S vv x y ar bh := by
  have h2 := h.below (below2 W o p)
  exact ⟨h2.r0, h2.r1, h2.r2, h2.r3, ⟨h2.hb.os, h2.hb.tape, h2.hb.output, h2.hb.size, h2.hb.block⟩⟩

theorem callFn (k : Nat) (h : k = 58 ∨ k = 59 ∨ k = 60 ∨ k = 62 ∨ k = 75 ∨ k = 63 ∨ k = 64 ∨ k = 65 ∨ k = 66 ∨ k = 76 ∨ k = 77 ∨ k = 16 ∨ k = 46) (args : Array Value) (w : World) : (callFunc k args).run Try.prog w = .ok (.enter k args) w := by
  rcases h with rfl | rfl | rfl | rfl | rfl | rfl | rfl | rfl | rfl | rfl | rfl | rfl | rfl <;> kernel_rfl

theorem Fk.enter_part (f : Fk) (args : Array Value) (w : World) : (callFunc f.part args).run Try.prog w = .ok (.enter f.part args) w := callFn _ (by cases f <;> simp [Fk.part]) args w
theorem Fk.enter_fit (f : Fk) (args : Array Value) (w : World) : (callFunc f.fit args).run Try.prog w = .ok (.enter f.fit args) w := callFn _ (by cases f <;> simp [Fk.fit]) args w
theorem Fk.enter_lay (f : Fk) (args : Array Value) (w : World) : (callFunc f.lay args).run Try.prog w = .ok (.enter f.lay args) w := callFn _ (by cases f <;> simp [Fk.lay]) args w
theorem Fk.enter_tak (f : Fk) (args : Array Value) (w : World) : (callFunc f.tak args).run Try.prog w = .ok (.enter f.tak args) w := callFn _ (by cases f <;> simp [Fk.tak]) args w

theorem fk_cell {w : World} {r : Nat} {o : Int} {y : Ins} (h : w.heap[r]? = some (io o y.a y.b y.c y.n y.k y.i y.t)) (f : Fk) : w.cell? ⟨r, f.pos, none⟩ = some (.int .i64 (f.get y)) := by
  obtain ⟨d0, d1, d2, d3, d4, d5, d6, d7, dz⟩ := vfacts8 h
  cases f <;> assumption

theorem fk_set {w : World} {r : Nat} {o : Int} {y : Ins} (h : w.heap[r]? = some (io o y.a y.b y.c y.n y.k y.i y.t)) (f : Fk) (v : Int) : (w.setCell ⟨r, f.pos, none⟩ (.int .i64 v)).heap[r]? = some (io o (f.set v y).a (f.set v y).b (f.set v y).c (f.set v y).n (f.set v y).k (f.set v y).i (f.set v y).t) := by
  cases f
  · exact io_set1 h v
  · exact io_set2 h v
  · exact io_set3 h v
  · exact io_set4 h v
  · exact io_set1 h v
  · exact io_set4 h v
  · exact io_set4 h v

set_option maxRecDepth 100000 in
set_option maxHeartbeats 4000000 in
theorem opcheck_any (S : Value) (fs : List Fk) (vv : Bool) (x : Ins) (ar bh : Int) (w : World) (hS : FsAt w S fs) (hl : fs.length ≤ 100) :
    Calls Try.prog 56 #[.agg #[S, .bool vv], x.val, .agg #[.int .i64 ar, .int .i64 bh]] w fun e w' => e = .returned (.int .i64 (opErr fs vv x ar bh)) ∧ Below w.heap.size w w' := by
  obtain ⟨ao, rfl, hS2⟩ := hS
  have HS := hid hS2
  clear hS2
  obtain ⟨R, hR⟩ : ∃ R, R = opErr fs vv x ar bh := ⟨_, rfl⟩
  rw [← hR]
  have HR := hid hR
  clear hR
  have H0 := hid (chs_start w (.slice ao fs.length fs.length) vv x ar bh)
  unfold Ins.val
  go_enter Try.func56, Try.ntmps56
  go_wp2
  go_loopw [16] (fun ix wr => ∃ (n : Nat) (y : Ins), n ≤ fs.length ∧ ix = .int .i64 n ∧ Hid (Chs w wr (.slice ao fs.length fs.length) vv x y ar bh) ∧ Hid (chkF ar bh (fs.drop n) y = chkF ar bh fs x)) (fun ix _ => fs.length - (intOf ix).toNat)
  case atStart => exact ⟨0, x, Nat.zero_le _, rfl, H0, hid rfl⟩
  case round =>
    clear H0
    obtain ⟨n, y, hn, rfl, hC, hK⟩ := hrel
    by_cases hlt : n < fs.length
    · obtain ⟨f, hf⟩ : ∃ f, fs[n]? = some f := ⟨_, List.getElem?_eq_getElem hlt⟩
      obtain ⟨b, rfl, hblk⟩ := HS.out (by intro e; rw [e] at hlt; simp at hlt)
      have hbl := lt_of hblk
      obtain ⟨T0, T1, T2, T3⟩ := fs_at (blk_of hC.out.hb hblk hbl) n f hf
      have hdrop : fs.drop n = f :: fs.drop (n + 1) := by
        rw [List.drop_eq_getElem_cons hlt]
        congr 1
        have := List.getElem?_eq_getElem hlt
        rw [hf] at this
        exact (Option.some.inj this).symm
      rw [hdrop] at hK
      have hlt' : (n : Int) < (fs.length : Int) := by omega
      have d0 := fk_cell hC.out.r3 f
      have dz := fun o => free_of_block (o := o) hC.out.r3
      obtain ⟨e0, e1, -⟩ := wfacts2 hC.out.r2
      have n0 := lt_of hC.out.r3
      have n2 := lt_of hC.out.r2
      have m1 := World.new_ne wr ⟨w.heap.size + 1 + 1 + 1, f.pos, none⟩ d0
      have m2 := World.new_ne wr ⟨w.heap.size + 1 + 1, 0, none⟩ e0
      have m3 := World.new_ne wr ⟨b, n * 4, none⟩ T0
      have hcp := f.enter_part
      have hcf := f.enter_fit
      have hp := hid (part_any f)
      have hff := hid (fit_any f (f.get y) ar bh)
      have HP := hid (fun (W : World) => fk_set (w := W) (r := w.heap.size + 1 + 1 + 1) (o := 0) (y := y) (f := f) (v := 0))
      by_cases hv : f.fits (f.get y) ar bh = true
      · have hk2 := hK.out
        rw [chkF, if_pos hv] at hk2
        rw [hv] at hff
        have HK2 := hid hk2
        obtain ⟨y2, hy2⟩ : ∃ y2, y2 = f.set 0 y := ⟨_, rfl⟩
        rw [← hy2] at HK2 HP
        obtain ⟨P, hP⟩ : ∃ P, P = f.part := ⟨_, rfl⟩
        obtain ⟨F, hF⟩ : ∃ F, F = f.fit := ⟨_, rfl⟩
        obtain ⟨q, hq⟩ : ∃ q, q = f.pos := ⟨_, rfl⟩
        obtain ⟨g, hg⟩ : ∃ g, g = f.get y := ⟨_, rfl⟩
        obtain ⟨L, hL⟩ : ∃ L, L = f.lay := ⟨_, rfl⟩
        obtain ⟨M, hM⟩ : ∃ M, M = f.tak := ⟨_, rfl⟩
        rw [← hP] at T0 hcp hp
        rw [← hF] at T1 hcf hff
        rw [← hL] at T2
        rw [← hM] at T3
        rw [← hq] at d0 m1 hp HP
        rw [← hg] at d0 hff
        clear hk2 hK hdrop hf hblk hv hP hF hq hg hL hM hy2
        go_wp2_with fail
        refine (hp.out _ _).mono ?_
        rintro e w2 ⟨rfl, e2⟩
        rw [e2]
        clear e2 w2
        go_wp2_with fail
        go_region_held (fun w' => w'.cell? ⟨wr.heap.size, 1, none⟩ = some (fn F) ∧ w'.cell? ⟨w.heap.size + 1 + 1 + 1, q, none⟩ = some (.int .i64 g) ∧ w'.cell? ⟨w.heap.size + 1 + 1, 0, none⟩ = some (.int .i64 ar) ∧ w'.cell? ⟨w.heap.size + 1 + 1, 1, none⟩ = some (.int .i64 bh)) (go_keep) (first
          | (refine (hff.out _).mono ?_
             rintro e w3 ⟨rfl, e3⟩
             rw [e3]
             clear e3 w3))
        go_wp2
        go_roundw
        case rel =>
          refine ⟨n + 1, y2, by omega, by go_num, hid ?_, HK2⟩
          exact chs_more2 (Chs.put hC.out _ _ (HP.out wr hC.out.r3)) _ _
        case measure => simp [intOf]; omega
      · have hv : f.fits (f.get y) ar bh = false := by simpa using hv
        have hk2 := hK.out
        rw [chkF, if_neg (by rw [hv]; exact Bool.false_ne_true)] at hk2
        rw [hv] at hff
        have HK2 := hid hk2
        obtain ⟨P, hP⟩ : ∃ P, P = f.part := ⟨_, rfl⟩
        obtain ⟨F, hF⟩ : ∃ F, F = f.fit := ⟨_, rfl⟩
        obtain ⟨q, hq⟩ : ∃ q, q = f.pos := ⟨_, rfl⟩
        obtain ⟨g, hg⟩ : ∃ g, g = f.get y := ⟨_, rfl⟩
        obtain ⟨L, hL⟩ : ∃ L, L = f.lay := ⟨_, rfl⟩
        obtain ⟨M, hM⟩ : ∃ M, M = f.tak := ⟨_, rfl⟩
        rw [← hP] at T0 hcp hp
        rw [← hF] at T1 hcf hff
        rw [← hL] at T2
        rw [← hM] at T3
        rw [← hq] at d0 m1 hp HP
        rw [← hg] at d0 hff
        clear hk2 hK hdrop hf hblk hv hP hF hq hg hL hM
        go_wp2_with fail
        refine (hp.out _ _).mono ?_
        rintro e w2 ⟨rfl, e2⟩
        rw [e2]
        clear e2 w2
        go_wp2_with fail
        go_region_held (fun w' => w'.cell? ⟨wr.heap.size, 1, none⟩ = some (fn F) ∧ w'.cell? ⟨w.heap.size + 1 + 1 + 1, q, none⟩ = some (.int .i64 g) ∧ w'.cell? ⟨w.heap.size + 1 + 1, 0, none⟩ = some (.int .i64 ar) ∧ w'.cell? ⟨w.heap.size + 1 + 1, 1, none⟩ = some (.int .i64 bh)) (go_keep) (first
          | (refine (hff.out _).mono ?_
             rintro e w3 ⟨rfl, e3⟩
             rw [e3]
             clear e3 w3))
        go_wp2
        go_ret
        exact ⟨by rw [HR.out, opErr, ← HK2.out]; rfl, (chs_more2 hC.out _ _).hb⟩
    · have hdrop : fs.drop n = [] := List.drop_eq_nil_of_le (by omega)
      rw [hdrop] at hK
      have hk2 := hK.out
      rw [chkF] at hk2
      have HK2 := hid hk2
      clear hK hk2 hdrop
      have hlt' : ¬ ((n : Int) < (fs.length : Int)) := by omega
      obtain ⟨c0, c1, c2, c3, c4, c5, c6, c7, cz⟩ := vfacts8 hC.out.r1
      obtain ⟨d0, d1, d2, d3, d4, d5, d6, d7, dz⟩ := vfacts8 hC.out.r3
      obtain ⟨e0, e1, -⟩ := wfacts2 hC.out.r0
      have HZ := hid (fun W => check_any x.k x.i x.t W)
      obtain ⟨yo, ya, yb, yc, yn, yk, yi, yt⟩ := y
      dsimp only at d0 d1 d2 d3 d4 d5 d6 d7
      cases vv with
      | true =>
        by_cases za : ya = 0
        rotate_left
        · have za' : (ya == 0) = false := by simpa using za
          go_wp2_with fail
          go_ret
          exact ⟨by rw [HR.out, opErr, ← HK2.out]; simp [za], (chs_set3 hC.out _ _ _)⟩
        subst za
        by_cases zb : yb = 0
        rotate_left
        · have zb' : (yb == 0) = false := by simpa using zb
          go_wp2_with fail
          go_ret
          exact ⟨by rw [HR.out, opErr, ← HK2.out]; simp [zb], (chs_set3 hC.out _ _ _)⟩
        subst zb
        by_cases zc : yc = 0
        rotate_left
        · have zc' : (yc == 0) = false := by simpa using zc
          go_wp2_with fail
          go_ret
          exact ⟨by rw [HR.out, opErr, ← HK2.out]; simp [zc], (chs_set3 hC.out _ _ _)⟩
        subst zc
        by_cases zn : yn = 0
        rotate_left
        · have zn' : (yn == 0) = false := by simpa using zn
          go_wp2_with fail
          go_ret
          exact ⟨by rw [HR.out, opErr, ← HK2.out]; simp [zn], (chs_set3 hC.out _ _ _)⟩
        subst zn
        go_wp2_with fail
        refine (HZ.out _).mono ?_
        rintro e w5 ⟨rfl, hb5⟩
        have HB := hid (below_on (chs_set3 hC.out _ _ _) hb5)
        clear hb5
        go_wp2
        go_ret
        exact ⟨by rw [HR.out, opErr, ← HK2.out]; simp, HB.out⟩
      | false =>
        by_cases za : ya = 0
        rotate_left
        · have za' : (ya == 0) = false := by simpa using za
          go_wp2_with fail
          go_ret
          exact ⟨by rw [HR.out, opErr, ← HK2.out]; simp [za], hC.out.hb⟩
        subst za
        by_cases zb : yb = 0
        rotate_left
        · have zb' : (yb == 0) = false := by simpa using zb
          go_wp2_with fail
          go_ret
          exact ⟨by rw [HR.out, opErr, ← HK2.out]; simp [zb], hC.out.hb⟩
        subst zb
        by_cases zc : yc = 0
        rotate_left
        · have zc' : (yc == 0) = false := by simpa using zc
          go_wp2_with fail
          go_ret
          exact ⟨by rw [HR.out, opErr, ← HK2.out]; simp [zc], hC.out.hb⟩
        subst zc
        by_cases zn : yn = 0
        rotate_left
        · have zn' : (yn == 0) = false := by simpa using zn
          go_wp2_with fail
          go_ret
          exact ⟨by rw [HR.out, opErr, ← HK2.out]; simp [zn], hC.out.hb⟩
        subst zn
        by_cases zk : yk = 0
        rotate_left
        · have zk' : (yk == 0) = false := by simpa using zk
          go_wp2_with fail
          go_ret
          exact ⟨by rw [HR.out, opErr, ← HK2.out]; simp [zk], hC.out.hb⟩
        subst zk
        by_cases zi : yi = 0
        rotate_left
        · have zi' : (yi == 0) = false := by simpa using zi
          go_wp2_with fail
          go_ret
          exact ⟨by rw [HR.out, opErr, ← HK2.out]; simp [zi], hC.out.hb⟩
        subst zi
        by_cases zt : yt = emp
        rotate_left
        · obtain ⟨t1, t2, t3, t4⟩ := str_ne2 zt
          go_wp2_with fail
          go_ret
          exact ⟨by rw [HR.out, opErr, ← HK2.out]; simp [zt], hC.out.hb⟩
        subst zt
        go_wp2_with fail
        refine (HZ.out _).mono ?_
        rintro e w5 ⟨rfl, hb5⟩
        have HB := hid (below_on hC.out.hb hb5)
        clear hb5
        go_wp2
        go_ret
        exact ⟨by rw [HR.out, opErr, ← HK2.out]; simp, HB.out⟩

end Go.Proofs.Ytdnlfacfleemeaa
