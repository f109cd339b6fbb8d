import Derived.Test.YthcoigbkdbkojabGreatK21
import Derived.Defers
import Derived.Recover
set_option maxRecDepth 100000
namespace Go.Proofs.YthcoigbkdbkojabGreat
open Go.RowKit
def FsAt (w : World) (S : Value) (fs : List Fk) : Prop := ∃ ao, S = .slice ao fs.length fs.length ∧ (fs ≠ [] → ∃ b, ao = some ⟨b, 0, none⟩ ∧ w.heap[b]? = some (.cells (fsCells fs) 135 (0, 0)))
theorem FsAt.below {w w' : World} {S : Value} {fs : List Fk} (h : FsAt w S fs) (hb : Below w.heap.size w w') : FsAt w' S fs := by
  obtain ⟨ao, h1, h2⟩ := h
  refine ⟨ao, h1, fun hn => ?_⟩
  obtain ⟨b, h3, h4⟩ := h2 hn
  exact ⟨b, h3, blk_of hb h4 (lt_of h4)⟩
theorem Tbl.fs {w : World} {G : Nat} (h : Tbl w G) (i : Nat) : FsAt w (opS G i) (opF i) := by
  unfold opS
  by_cases hi : 1 ≤ i ∧ i ≤ 15
  · rw [if_pos hi]
    exact ⟨_, rfl, fun _ => ⟨_, rfl, h.fb i hi.1 hi.2⟩⟩
  · rw [if_neg hi]
    have : opF i = [] := by
      unfold opF
      split <;> first | rfl | (exfalso; omega)
    rw [this]
    exact ⟨none, rfl, fun h => absurd rfl h⟩
theorem fsl_at : ∀ (fs : List Fk) (j : Nat) (f : Fk), fs[j]? = some f → (fs.flatMap Fk.cells)[j * 4]? = some (fn f.part) ∧ (fs.flatMap Fk.cells)[j * 4 + 1]? = some (fn f.fit) ∧ (fs.flatMap Fk.cells)[j * 4 + 2]? = some (fn f.lay) ∧ (fs.flatMap Fk.cells)[j * 4 + 3]? = some (fn f.tak) := by
  intro fs
  induction fs with
  | nil => intro j f h; simp at h
  | cons g fs ih =>
    intro j f h
    rw [List.flatMap_cons, Fk.cells_eq]
    cases j with
    | zero => simp at h; subst h; exact ⟨rfl, rfl, rfl, rfl⟩
    | succ j =>
      obtain ⟨a, b, c, d⟩ := ih j f (by simpa using h)
      rw [show (j + 1) * 4 = j * 4 + 4 by omega, show j * 4 + 4 + 1 = j * 4 + 1 + 4 by omega, show j * 4 + 4 + 2 = j * 4 + 2 + 4 by omega, show j * 4 + 4 + 3 = j * 4 + 3 + 4 by omega]
      exact ⟨by simpa using a, by simpa using b, by simpa using c, by simpa using d⟩
theorem fs_at {w : World} {b : Nat} {fs : List Fk} (h : w.heap[b]? = some (.cells (fsCells fs) 135 (0, 0))) (j : Nat) (f : Fk) (hf : fs[j]? = some f) :
    w.cell? ⟨b, j * 4, none⟩ = some (fn f.part) ∧ w.cell? ⟨b, j * 4 + 1, none⟩ = some (fn f.fit) ∧ w.cell? ⟨b, j * 4 + 2, none⟩ = some (fn f.lay) ∧ w.cell? ⟨b, j * 4 + 3, none⟩ = some (fn f.tak) := by
  obtain ⟨x, y, z, u⟩ := fsl_at fs j f hf
  refine ⟨?_, ?_, ?_, ?_⟩ <;> (rw [cell_of_row w _ _ _ _ _ h]; simpa [fsCells])
theorem vfacts8 {w : World} {r : Nat} {a b c d e f g h : Value} {t : TypeId} (hh : w.heap[r]? = some (.cells #[a, b, c, d, e, f, g, h] t (0, 0))) :
    w.cell? ⟨r, 0, none⟩ = some a ∧ w.cell? ⟨r, 1, none⟩ = some b ∧ w.cell? ⟨r, 2, none⟩ = some c ∧ w.cell? ⟨r, 3, none⟩ = some d ∧ w.cell? ⟨r, 4, none⟩ = some e ∧ w.cell? ⟨r, 5, none⟩ = some f ∧ w.cell? ⟨r, 6, none⟩ = some g ∧ w.cell? ⟨r, 7, none⟩ = some h ∧ ∀ o, w.frozen? ⟨r, o, none⟩ = false := by
  refine ⟨?_, ?_, ?_, ?_, ?_, ?_, ?_, ?_, fun o => by simp [World.frozen?, hh]⟩ <;> (rw [cell_of_row w _ _ _ _ _ hh]; rfl)
theorem wfacts2 {w : World} {r : Nat} {a b : Value} {t : TypeId} (h : w.heap[r]? = some (.cells #[a, b] t (0, 0))) :
    w.cell? ⟨r, 0, none⟩ = some a ∧ w.cell? ⟨r, 1, none⟩ = some b ∧ ∀ o, w.frozen? ⟨r, o, none⟩ = false := by
  refine ⟨?_, ?_, fun o => by simp [World.frozen?, h]⟩ <;> (rw [cell_of_row w _ _ _ _ _ h]; rfl)
def chkF (ar bh : Int) : List Fk → Ins → Option Ins
  | [], y => some y
  | f :: fs, y => if f.fits (f.get y) ar bh = true then chkF ar bh fs (f.set 0 y) else none
def opErr (fs : List Fk) (vv : Bool) (x : Ins) (ar bh : Int) : Int :=
  match chkF ar bh fs x with
  | none => 16
  | some y => if y.a = 0 ∧ y.b = 0 ∧ y.c = 0 ∧ y.n = 0 ∧ (vv = true ∨ y.k = 0 ∧ y.i = 0 ∧ y.t = emp) then chk x.k x.i x.t else 16
structure Chs (w W : World) (S : Value) (vv : Bool) (x y : Ins) (ar bh : Int) : Prop where
  r0 : W.heap[w.heap.size]? = some (.cells #[S, .bool vv] 97 (0, 0))
  r1 : W.heap[w.heap.size + 1]? = some (io x.op x.a x.b x.c x.n x.k x.i x.t)
  r2 : W.heap[w.heap.size + 1 + 1]? = some (.cells #[.int .i64 ar, .int .i64 bh] 102 (0, 0))
  r3 : W.heap[w.heap.size + 1 + 1 + 1]? = some (io 0 y.a y.b y.c y.n y.k y.i y.t)
  hb : Below w.heap.size w W
theorem Chs.below {w W W' : World} {S : Value} {vv : Bool} {x y : Ins} {ar bh : Int} (h : Chs w W S vv x y ar bh) (hb : Below W.heap.size W W') : Chs w W' S vv x y ar bh :=
  ⟨blk_of hb h.r0 (lt_of h.r0), blk_of hb h.r1 (lt_of h.r1), blk_of hb h.r2 (lt_of h.r2), blk_of hb h.r3 (lt_of h.r3), below_on h.hb hb⟩
theorem Chs.put {w W : World} {S : Value} {vv : Bool} {x y y' : Ins} {ar bh : Int} (h : Chs w W S vv x y ar bh) (o : Nat) (v : Value)
    (hp : (W.setCell ⟨w.heap.size + 1 + 1 + 1, o, none⟩ v).heap[w.heap.size + 1 + 1 + 1]? = some (io 0 y'.a y'.b y'.c y'.n y'.k y'.i y'.t)) : Chs w (W.setCell ⟨w.heap.size + 1 + 1 + 1, o, none⟩ v) S vv x y' ar bh := by
  have hk : ∀ k, k ≠ w.heap.size + 1 + 1 + 1 → (W.setCell ⟨w.heap.size + 1 + 1 + 1, o, none⟩ v).heap[k]? = W.heap[k]? := fun k hk => Below.heap_setCell _ _ _ _ hk
  refine ⟨?_, ?_, ?_, hp, h.hb.setCell (p := ⟨w.heap.size + 1 + 1 + 1, o, none⟩) (by show w.heap.size ≤ w.heap.size + 1 + 1 + 1; omega) v⟩
  · rw [hk _ (by omega)]; exact h.r0
  · rw [hk _ (by omega)]; exact h.r1
  · rw [hk _ (by omega)]; exact h.r2
theorem chs_set3 {w W : World} {S : Value} {vv : Bool} {x y : Ins} {ar bh : Int} (h : Chs w W S vv x y ar bh) (a b c : Value) :
    Below w.heap.size w (((W.setCell ⟨w.heap.size + 1 + 1 + 1, 5, none⟩ a).setCell ⟨w.heap.size + 1 + 1 + 1, 6, none⟩ b).setCell ⟨w.heap.size + 1 + 1 + 1, 7, none⟩ c) := by
  have hz : w.heap.size ≤ w.heap.size + 1 + 1 + 1 := by omega
  exact ((h.hb.setCell (p := ⟨w.heap.size + 1 + 1 + 1, 5, none⟩) hz a).setCell (p := ⟨w.heap.size + 1 + 1 + 1, 6, none⟩) hz b).setCell (p := ⟨w.heap.size + 1 + 1 + 1, 7, none⟩) hz c
theorem chs_start (w : World) (S : Value) (vv : Bool) (x : Ins) (ar bh : Int) :
    Chs w ((((w.alloc (.cells #[S, .bool vv] 97)).alloc (io x.op x.a x.b x.c x.n x.k x.i x.t)).alloc (.cells #[.int .i64 ar, .int .i64 bh] 102)).alloc (io 0 x.a x.b x.c x.n x.k x.i x.t)) S vv x x ar bh := by
  have h := allocs_at [.cells #[S, .bool vv] 97, io x.op x.a x.b x.c x.n x.k x.i x.t, .cells #[.int .i64 ar, .int .i64 bh] 102, io 0 x.a x.b x.c x.n x.k x.i x.t] w
  exact ⟨h 0 _ rfl, h 1 _ rfl, h 2 _ rfl, h 3 _ rfl, allocs_below [.cells #[S, .bool vv] 97, io x.op x.a x.b x.c x.n x.k x.i x.t, .cells #[.int .i64 ar, .int .i64 bh] 102, io 0 x.a x.b x.c x.n x.k x.i x.t] w⟩
theorem io_set1 {w : World} {r : Nat} {o a b c n k i : Int} {t : ByteArray} (h : w.heap[r]? = some (io o a b c n k i t)) (v : Int) : (w.setCell ⟨r, 1, none⟩ (.int .i64 v)).heap[r]? = some (io o v b c n k i t) := by
  simp [World.setCell, Array.getElem?_modify, h]
theorem io_set2 {w : World} {r : Nat} {o a b c n k i : Int} {t : ByteArray} (h : w.heap[r]? = some (io o a b c n k i t)) (v : Int) : (w.setCell ⟨r, 2, none⟩ (.int .i64 v)).heap[r]? = some (io o a v c n k i t) := by
  simp [World.setCell, Array.getElem?_modify, h]
theorem io_set3 {w : World} {r : Nat} {o a b c n k i : Int} {t : ByteArray} (h : w.heap[r]? = some (io o a b c n k i t)) (v : Int) : (w.setCell ⟨r, 3, none⟩ (.int .i64 v)).heap[r]? = some (io o a b v n k i t) := by
  simp [World.setCell, Array.getElem?_modify, h]
theorem io_set4 {w : World} {r : Nat} {o a b c n k i : Int} {t : ByteArray} (h : w.heap[r]? = some (io o a b c n k i t)) (v : Int) : (w.setCell ⟨r, 4, none⟩ (.int .i64 v)).heap[r]? = some (io o a b c v k i t) := by
  simp [World.setCell, Array.getElem?_modify, h]
theorem chs_more2 {w W : World} {S : Value} {vv : Bool} {x y : Ins} {ar bh : Int} (h : Chs w W S vv x y ar bh) (o p : Obj) : Chs w (((W.alloc o).alloc p).drew) S vv x y ar bh := by
  have h2 := h.below (below2 W o p)
  exact ⟨h2.r0, h2.r1, h2.r2, h2.r3, ⟨h2.hb.os, h2.hb.tape, h2.hb.output, h2.hb.size, h2.hb.block⟩⟩
theorem callFn (k : Nat) (h : k = 53 ∨ k = 54 ∨ k = 55 ∨ k = 57 ∨ k = 86 ∨ k = 58 ∨ k = 59 ∨ k = 60 ∨ k = 61 ∨ k = 87 ∨ k = 88 ∨ k = 89 ∨ k = 90) (args : Array Value) (w : World) : (callFunc k args).run Tryz.prog w = .ok (.enter k args) w := by
  rcases h with rfl | rfl | rfl | rfl | rfl | rfl | rfl | rfl | rfl | rfl | rfl | rfl | rfl <;> kernel_rfl
theorem Fk.enter_part (f : Fk) (args : Array Value) (w : World) : (callFunc f.part args).run Tryz.prog w = .ok (.enter f.part args) w := callFn _ (by cases f <;> simp [Fk.part]) args w
theorem Fk.enter_fit (f : Fk) (args : Array Value) (w : World) : (callFunc f.fit args).run Tryz.prog w = .ok (.enter f.fit args) w := callFn _ (by cases f <;> simp [Fk.fit]) args w
theorem fk_cell {w : World} {r : Nat} {o : Int} {y : Ins} (h : w.heap[r]? = some (io o y.a y.b y.c y.n y.k y.i y.t)) (f : Fk) : w.cell? ⟨r, f.pos, none⟩ = some (.int .i64 (f.get y)) := by
  obtain ⟨d0, d1, d2, d3, d4, d5, d6, d7, dz⟩ := vfacts8 h
  cases f <;> assumption
theorem fk_set {w : World} {r : Nat} {o : Int} {y : Ins} (h : w.heap[r]? = some (io o y.a y.b y.c y.n y.k y.i y.t)) (f : Fk) (v : Int) : (w.setCell ⟨r, f.pos, none⟩ (.int .i64 v)).heap[r]? = some (io o (f.set v y).a (f.set v y).b (f.set v y).c (f.set v y).n (f.set v y).k (f.set v y).i (f.set v y).t) := by
  cases f
  · exact io_set1 h v
  · exact io_set2 h v
  · exact io_set3 h v
  · exact io_set4 h v
  · exact io_set1 h v
  · exact io_set4 h v
  · exact io_set4 h v
set_option maxHeartbeats 4000000 in
theorem opcheck_any (S : Value) (fs : List Fk) (vv : Bool) (x : Ins) (ar bh : Int) (w : World) (hS : FsAt w S fs) (hl : fs.length ≤ 100) :
    Calls Tryz.prog 39 #[.agg #[S, .bool vv], x.val, .agg #[.int .i64 ar, .int .i64 bh]] w fun e w' => e = .returned (.int .i64 (opErr fs vv x ar bh)) ∧ Below w.heap.size w w' := by
  obtain ⟨ao, rfl, hS2⟩ := hS
  have HS := hid hS2
  clear hS2
  obtain ⟨R, hR⟩ : ∃ R, R = opErr fs vv x ar bh := ⟨_, rfl⟩
  rw [← hR]
  have HR := hid hR
  clear hR
  have H0 := hid (chs_start w (.slice ao fs.length fs.length) vv x ar bh)
  unfold Ins.val
  go_enter Tryz.func39, Tryz.ntmps39
  go_wp2
  go_loopw [16] (fun ix wr => ∃ (n : Nat) (y : Ins), n ≤ fs.length ∧ ix = .int .i64 n ∧ Hid (Chs w wr (.slice ao fs.length fs.length) vv x y ar bh) ∧ Hid (chkF ar bh (fs.drop n) y = chkF ar bh fs x)) (fun ix _ => fs.length - (intOf ix).toNat)
  case atStart => exact ⟨0, x, Nat.zero_le _, rfl, H0, hid rfl⟩
  case round =>
    clear H0
    obtain ⟨n, y, hn, rfl, hC, hK⟩ := hrel
    by_cases hlt : n < fs.length
    · obtain ⟨f, hf⟩ : ∃ f, fs[n]? = some f := ⟨_, List.getElem?_eq_getElem hlt⟩
      obtain ⟨b, rfl, hblk⟩ := HS.out (by intro e; rw [e] at hlt; simp at hlt)
      have hbl := lt_of hblk
      obtain ⟨T0, T1, T2, T3⟩ := fs_at (blk_of hC.out.hb hblk hbl) n f hf
      have hdrop : fs.drop n = f :: fs.drop (n + 1) := by
        rw [List.drop_eq_getElem_cons hlt]
        congr 1
        have := List.getElem?_eq_getElem hlt
        rw [hf] at this
        exact (Option.some.inj this).symm
      rw [hdrop] at hK
      have hlt' : (n : Int) < (fs.length : Int) := by omega
      have d0 := fk_cell hC.out.r3 f
      have dz := fun o => free_of_block (o := o) hC.out.r3
      obtain ⟨e0, e1, -⟩ := wfacts2 hC.out.r2
      have n0 := lt_of hC.out.r3
      have n2 := lt_of hC.out.r2
      have m1 := World.new_ne wr ⟨w.heap.size + 1 + 1 + 1, f.pos, none⟩ d0
      have m2 := World.new_ne wr ⟨w.heap.size + 1 + 1, 0, none⟩ e0
      have m3 := World.new_ne wr ⟨b, n * 4, none⟩ T0
      have hcp := f.enter_part
      have hcf := f.enter_fit
      have hp := hid (part_any f)
      have hff := hid (fit_any f (f.get y) ar bh)
      have HP := hid (fun (W : World) => fk_set (w := W) (r := w.heap.size + 1 + 1 + 1) (o := 0) (y := y) (f := f) (v := 0))
      by_cases hv : f.fits (f.get y) ar bh = true
      · have hk2 := hK.out
        rw [chkF, if_pos hv] at hk2
        rw [hv] at hff
        have HK2 := hid hk2
        obtain ⟨y2, hy2⟩ : ∃ y2, y2 = f.set 0 y := ⟨_, rfl⟩
        rw [← hy2] at HK2 HP
        obtain ⟨P, hP⟩ : ∃ P, P = f.part := ⟨_, rfl⟩
        obtain ⟨F, hF⟩ : ∃ F, F = f.fit := ⟨_, rfl⟩
        obtain ⟨q, hq⟩ : ∃ q, q = f.pos := ⟨_, rfl⟩
        obtain ⟨g, hg⟩ : ∃ g, g = f.get y := ⟨_, rfl⟩
        obtain ⟨L, hL⟩ : ∃ L, L = f.lay := ⟨_, rfl⟩
        obtain ⟨M, hM⟩ : ∃ M, M = f.tak := ⟨_, rfl⟩
        rw [← hP] at T0 hcp hp
        rw [← hF] at T1 hcf hff
        rw [← hL] at T2
        rw [← hM] at T3
        rw [← hq] at d0 m1 hp HP
        rw [← hg] at d0 hff
        clear hk2 hK hdrop hf hblk hv hP hF hq hg hL hM hy2
        go_wp2_with fail
        refine (hp.out _ _).mono ?_
        rintro e w2 ⟨rfl, e2⟩
        rw [e2]
        clear e2 w2
        go_wp2_with fail
        go_region_held (fun w' => w'.cell? ⟨wr.heap.size, 1, none⟩ = some (fn F) ∧ w'.cell? ⟨w.heap.size + 1 + 1 + 1, q, none⟩ = some (.int .i64 g) ∧ w'.cell? ⟨w.heap.size + 1 + 1, 0, none⟩ = some (.int .i64 ar) ∧ w'.cell? ⟨w.heap.size + 1 + 1, 1, none⟩ = some (.int .i64 bh)) (go_keep) (first
          | (refine (hff.out _).mono ?_
             rintro e w3 ⟨rfl, e3⟩
             rw [e3]
             clear e3 w3))
        go_wp2
        go_roundw
        case rel =>
          refine ⟨n + 1, y2, by omega, by go_num, hid ?_, HK2⟩
          exact chs_more2 (Chs.put hC.out _ _ (HP.out wr hC.out.r3)) _ _
        case measure => simp [intOf]; omega
      · have hv : f.fits (f.get y) ar bh = false := by simpa using hv
        have hk2 := hK.out
        rw [chkF, if_neg (by rw [hv]; exact Bool.false_ne_true)] at hk2
        rw [hv] at hff
        have HK2 := hid hk2
        obtain ⟨P, hP⟩ : ∃ P, P = f.part := ⟨_, rfl⟩
        obtain ⟨F, hF⟩ : ∃ F, F = f.fit := ⟨_, rfl⟩
        obtain ⟨q, hq⟩ : ∃ q, q = f.pos := ⟨_, rfl⟩
        obtain ⟨g, hg⟩ : ∃ g, g = f.get y := ⟨_, rfl⟩
        obtain ⟨L, hL⟩ : ∃ L, L = f.lay := ⟨_, rfl⟩
        obtain ⟨M, hM⟩ : ∃ M, M = f.tak := ⟨_, rfl⟩
        rw [← hP] at T0 hcp hp
        rw [← hF] at T1 hcf hff
        rw [← hL] at T2
        rw [← hM] at T3
        rw [← hq] at d0 m1 hp HP
        rw [← hg] at d0 hff
        clear hk2 hK hdrop hf hblk hv hP hF hq hg hL hM
        go_wp2_with fail
        refine (hp.out _ _).mono ?_
        rintro e w2 ⟨rfl, e2⟩
        rw [e2]
        clear e2 w2
        go_wp2_with fail
        go_region_held (fun w' => w'.cell? ⟨wr.heap.size, 1, none⟩ = some (fn F) ∧ w'.cell? ⟨w.heap.size + 1 + 1 + 1, q, none⟩ = some (.int .i64 g) ∧ w'.cell? ⟨w.heap.size + 1 + 1, 0, none⟩ = some (.int .i64 ar) ∧ w'.cell? ⟨w.heap.size + 1 + 1, 1, none⟩ = some (.int .i64 bh)) (go_keep) (first
          | (refine (hff.out _).mono ?_
             rintro e w3 ⟨rfl, e3⟩
             rw [e3]
             clear e3 w3))
        go_wp2
        go_ret
        exact ⟨by rw [HR.out, opErr, ← HK2.out]; rfl, (chs_more2 hC.out _ _).hb⟩
    · have hdrop : fs.drop n = [] := List.drop_eq_nil_of_le (by omega)
      rw [hdrop] at hK
      have hk2 := hK.out
      rw [chkF] at hk2
      have HK2 := hid hk2
      clear hK hk2 hdrop
      have hlt' : ¬ ((n : Int) < (fs.length : Int)) := by omega
      obtain ⟨c0, c1, c2, c3, c4, c5, c6, c7, cz⟩ := vfacts8 hC.out.r1
      obtain ⟨d0, d1, d2, d3, d4, d5, d6, d7, dz⟩ := vfacts8 hC.out.r3
      obtain ⟨e0, e1, -⟩ := wfacts2 hC.out.r0
      have HZ := hid (fun W => check_any x.k x.i x.t W)
      obtain ⟨yo, ya, yb, yc, yn, yk, yi, yt⟩ := y
      dsimp only at d0 d1 d2 d3 d4 d5 d6 d7
      cases vv with
      | true =>
        by_cases za : ya = 0
        rotate_left
        · have za' : (ya == 0) = false := by simpa using za
          go_wp2_with fail
          go_ret
          exact ⟨by rw [HR.out, opErr, ← HK2.out]; simp [za], (chs_set3 hC.out _ _ _)⟩
        subst za
        by_cases zb : yb = 0
        rotate_left
        · have zb' : (yb == 0) = false := by simpa using zb
          go_wp2_with fail
          go_ret
          exact ⟨by rw [HR.out, opErr, ← HK2.out]; simp [zb], (chs_set3 hC.out _ _ _)⟩
        subst zb
        by_cases zc : yc = 0
        rotate_left
        · have zc' : (yc == 0) = false := by simpa using zc
          go_wp2_with fail
          go_ret
          exact ⟨by rw [HR.out, opErr, ← HK2.out]; simp [zc], (chs_set3 hC.out _ _ _)⟩
        subst zc
        by_cases zn : yn = 0
        rotate_left
        · have zn' : (yn == 0) = false := by simpa using zn
          go_wp2_with fail
          go_ret
          exact ⟨by rw [HR.out, opErr, ← HK2.out]; simp [zn], (chs_set3 hC.out _ _ _)⟩
        subst zn
        go_wp2_with fail
        refine (HZ.out _).mono ?_
        rintro e w5 ⟨rfl, hb5⟩
        have HB := hid (below_on (chs_set3 hC.out _ _ _) hb5)
        clear hb5
        go_wp2
        go_ret
        exact ⟨by rw [HR.out, opErr, ← HK2.out]; simp, HB.out⟩
      | false =>
        by_cases za : ya = 0
        rotate_left
        · have za' : (ya == 0) = false := by simpa using za
          go_wp2_with fail
          go_ret
          exact ⟨by rw [HR.out, opErr, ← HK2.out]; simp [za], hC.out.hb⟩
        subst za
        by_cases zb : yb = 0
        rotate_left
        · have zb' : (yb == 0) = false := by simpa using zb
          go_wp2_with fail
          go_ret
          exact ⟨by rw [HR.out, opErr, ← HK2.out]; simp [zb], hC.out.hb⟩
        subst zb
        by_cases zc : yc = 0
        rotate_left
        · have zc' : (yc == 0) = false := by simpa using zc
          go_wp2_with fail
          go_ret
          exact ⟨by rw [HR.out, opErr, ← HK2.out]; simp [zc], hC.out.hb⟩
        subst zc
        by_cases zn : yn = 0
        rotate_left
        · have zn' : (yn == 0) = false := by simpa using zn
          go_wp2_with fail
          go_ret
          exact ⟨by rw [HR.out, opErr, ← HK2.out]; simp [zn], hC.out.hb⟩
        subst zn
        by_cases zk : yk = 0
        rotate_left
        · have zk' : (yk == 0) = false := by simpa using zk
          go_wp2_with fail
          go_ret
          exact ⟨by rw [HR.out, opErr, ← HK2.out]; simp [zk], hC.out.hb⟩
        subst zk
        by_cases zi : yi = 0
        rotate_left
        · have zi' : (yi == 0) = false := by simpa using zi
          go_wp2_with fail
          go_ret
          exact ⟨by rw [HR.out, opErr, ← HK2.out]; simp [zi], hC.out.hb⟩
        subst zi
        by_cases zt : yt = emp
        rotate_left
        · obtain ⟨t1, t2, t3, t4⟩ := str_ne2 zt
          go_wp2_with fail
          go_ret
          exact ⟨by rw [HR.out, opErr, ← HK2.out]; simp [zt], hC.out.hb⟩
        subst zt
        go_wp2_with fail
        refine (HZ.out _).mono ?_
        rintro e w5 ⟨rfl, hb5⟩
        have HB := hid (below_on hC.out.hb hb5)
        clear hb5
        go_wp2
        go_ret
        exact ⟨by rw [HR.out, opErr, ← HK2.out]; simp, HB.out⟩
structure InsAt (w : World) (b o : Nat) (x : Ins) : Prop where
  c0 : w.cell? ⟨b, o, none⟩ = some (.int .i64 x.op)
  c1 : w.cell? ⟨b, o + 1, none⟩ = some (.int .i64 x.a)
  c2 : w.cell? ⟨b, o + 2, none⟩ = some (.int .i64 x.b)
  c3 : w.cell? ⟨b, o + 3, none⟩ = some (.int .i64 x.c)
  c4 : w.cell? ⟨b, o + 4, none⟩ = some (.int .i64 x.n)
  c5 : w.cell? ⟨b, o + 5, none⟩ = some (.int .i64 x.k)
  c6 : w.cell? ⟨b, o + 6, none⟩ = some (.int .i64 x.i)
  c7 : w.cell? ⟨b, o + 7, none⟩ = some (.string x.t)
theorem InsAt.same {w w' : World} {b o : Nat} {x : Ins} (h : InsAt w b o x) (hb : w'.heap[b]? = w.heap[b]?) : InsAt w' b o x := by
  have e : ∀ k, w'.cell? ⟨b, k, none⟩ = w.cell? ⟨b, k, none⟩ := fun k => World.cell?_of_block (a := ⟨b, k, none⟩) hb
  exact ⟨(e _).trans h.c0, (e _).trans h.c1, (e _).trans h.c2, (e _).trans h.c3, (e _).trans h.c4, (e _).trans h.c5, (e _).trans h.c6, (e _).trans h.c7⟩
theorem InsAt.lt {w : World} {b o : Nat} {x : Ins} (h : InsAt w b o x) : b < w.heap.size := World.block_lt_of_cell? w _ h.c0
def CodeAt (w : World) (v : Value) (xs : List Ins) : Prop :=
  ∃ ao cap, v = .slice ao xs.length cap ∧ xs.length ≤ cap ∧ (xs ≠ [] → ∃ b off, ao = some ⟨b, off, none⟩ ∧ ∀ j x, xs[j]? = some x → InsAt w b (off + j * 8) x)
theorem CodeAt.below {w w' : World} {v : Value} {xs : List Ins} (h : CodeAt w v xs) (hb : Below w.heap.size w w') : CodeAt w' v xs := by
  obtain ⟨ao, cap, h1, h2, h3⟩ := h
  refine ⟨ao, cap, h1, h2, fun hn => ?_⟩
  obtain ⟨b, off, h4, h5⟩ := h3 hn
  exact ⟨b, off, h4, fun j x hx => (h5 j x hx).same (hb.block b (h5 j x hx).lt)⟩
def insErr (x : Ins) (ar bh : Int) : Int := if 1 ≤ x.op ∧ x.op ≤ 16 then opErr (opF (opN x.op)) (opN x.op == 1) x ar bh else 16
def codeChk (ar : Int) (len : Nat) : Nat → List Ins → Int × Int
  | _, [] => (0, 0)
  | i, x :: xs => if insErr x ar ((len : Int) - 1 - i) = 0 then codeChk ar len (i + 1) xs else ((i : Int), insErr x ar ((len : Int) - 1 - i))
def procChk (nm : ByteArray) (ar : Int) (xs : List Ins) : Int × Int :=
  if nameB nm = true then if withinB ar 0 16 = true then if xs.length ≤ 64 then codeChk ar xs.length 0 xs else (-1, 4) else (-1, 1) else (-1, 5)
abbrev po (nm : ByteArray) (ar : Int) (S : Value) : Obj := .cells #[.string nm, .int .i64 ar, S] 34
theorem opF_len (i : Nat) : (opF i).length ≤ 100 := by
  unfold opF
  split <;> simp
structure Pst (w W : World) (nm : ByteArray) (ar : Int) (S : Value) (G : Nat) : Prop where
  r0 : W.heap[w.heap.size]? = some (po nm ar S)
  tb : Tbl W G
  hb : Below w.heap.size w W
theorem Pst.below {w W W' : World} {nm : ByteArray} {ar : Int} {S : Value} {G : Nat} (h : Pst w W nm ar S G) (hb : Below W.heap.size W W') : Pst w W' nm ar S G :=
  ⟨blk_of hb h.r0 (lt_of h.r0), h.tb.below hb, below_on h.hb hb⟩
theorem pst_start {w w1 : World} {nm : ByteArray} {ar : Int} {S : Value} {G : Nat} (ht : Tbl w1 G) (hb : Below (w.alloc (po nm ar S)).heap.size (w.alloc (po nm ar S)) w1) : Pst w w1 nm ar S G :=
  ⟨blk_of hb (heap_alloc_new w _) (by simp), ht, (below1 w _).trans (hb.mono (below1 w (po nm ar S)).size)⟩
theorem pround {w wr w2 : World} {nm : ByteArray} {ar : Int} {S : Value} {G : Nat} {o : Obj} (h : Pst w wr nm ar S G) (hb : Below (wr.alloc o).heap.size (wr.alloc o) w2) :
    Pst w w2 nm ar S G ∧ w2.heap[wr.heap.size]? = some o :=
  ⟨(h.below (below1 wr o)).below hb, blk_of hb (heap_alloc_new wr o) (by simp)⟩
set_option maxHeartbeats 4000000 in
theorem pcheck_any (nm : ByteArray) (ar : Int) (S : Value) (xs : List Ins) (w : World) (h : CodeAt w S xs) (hl : xs.length ≤ 1000000000) :
    Calls Tryz.prog 20 #[.agg #[.string nm, .int .i64 ar, S]] w fun e w' => e = .returned (.tuple #[.int .i64 (procChk nm ar xs).1, .int .i64 (procChk nm ar xs).2]) ∧ Below w.heap.size w w' := by
  obtain ⟨ao, cap, rfl, hcap, hcells⟩ := h
  obtain ⟨R1, R2, hR⟩ : ∃ R1 R2, procChk nm ar xs = (R1, R2) := ⟨_, _, rfl⟩
  rw [hR]
  dsimp only
  have HR := hid hR
  have HC := hid hcells
  have HN := hid (isName_any nm)
  have HW := hid (within_any ar 0 16)
  clear hR hcells
  have hB0 := hid (below1 w (po nm ar (.slice ao xs.length cap)))
  by_cases h1 : nameB nm = true
  · rw [h1] at HN
    by_cases h2 : withinB ar 0 16 = true
    · rw [h2] at HW
      by_cases h3 : xs.length ≤ 64
      · have HR2 := HR.out
        rw [procChk, if_pos h1, if_pos h2, if_pos h3] at HR2
        have H2 := hid HR2
        have h3' : (xs.length : Int) ≤ 64 := by omega
        clear HR2 HR h1
        go_enter Tryz.func20, Tryz.ntmps20
        go_wp2_with (first
          | (go_at_call 35; refine (HN.out _).mono ?_; rintro e w' ⟨rfl, e1⟩; rw [e1]; clear e1 w')
          | (go_at_call 36; refine (HW.out _).mono ?_; rintro e w' ⟨rfl, e1⟩; rw [e1]; clear e1 w')
          | (go_at_call 37
             refine (operations_any _).mono ?_
             rintro e w1 ⟨G, rfl, ht, hG, hb⟩
             have H1 := hid (pst_start ht hb)
             obtain ⟨p0, p1, p2, -⟩ := vfacts H1.out.r0
             clear hb))
        go_loopw [29] (fun ix wr => ∃ (n : Nat), n ≤ xs.length ∧ ix = .int .i64 n ∧ Hid (Pst w wr nm ar (.slice ao xs.length cap) G) ∧ Hid (codeChk ar xs.length n (xs.drop n) = (R1, R2))) (fun ix _ => xs.length - (intOf ix).toNat)
        case atStart => exact ⟨0, Nat.zero_le _, rfl, H1, hid H2.out⟩
        case round =>
          clear H1 p0 p1 p2
          obtain ⟨n, hn, rfl, hP, hK⟩ := hrel
          by_cases hlt : n < xs.length
          · obtain ⟨x, hx⟩ : ∃ x, xs[n]? = some x := ⟨_, List.getElem?_eq_getElem hlt⟩
            obtain ⟨b, off, rfl, hat⟩ := HC.out (by intro e; rw [e] at hlt; simp at hlt)
            have hat := hat n x hx
            obtain ⟨c0, c1, c2, c3, c4, c5, c6, c7⟩ := hat.same (hP.out.hb.block b hat.lt)
            have hbl := hat.lt
            have hdrop : xs.drop n = x :: xs.drop (n + 1) := by
              rw [List.drop_eq_getElem_cons hlt]
              congr 1
              have := List.getElem?_eq_getElem hlt
              rw [hx] at this
              exact (Option.some.inj this).symm
            rw [hdrop] at hK
            have hk2 := hK.out
            rw [codeChk] at hk2
            have hlt' : (n : Int) < (xs.length : Int) := by omega
            obtain ⟨ao2, n2, cc2, hsS⟩ := opS_form G (opN x.op)
            obtain ⟨p0, p1, p2, -⟩ := vfacts hP.out.r0
            have m1 := lt_of hP.out.r0
            have m2 := World.new_ne wr ⟨b, off + n * 8, none⟩ c0
            have HS := hid hsS
            by_cases hop : 1 ≤ x.op ∧ x.op ≤ 16
            · by_cases he : insErr x ar ((xs.length : Int) - 1 - n) = 0
              · rw [if_pos he] at hk2
                rw [insErr, if_pos hop] at he
                have HE := hid he
                have HK2 := hid hk2
                have HO := hid hop
                clear hk2 hK hdrop he hx hat hop hsS
                go_wp2_with (first
                  | (go_at_call 38
                     refine (find_any G x.op _ (hP.out.tb.below (below1 wr _))).mono ?_
                     rintro e w2 ⟨rfl, hb2⟩
                     rw [findV, HS.out, decide_eq_true HO.out]
                     have H2' := hid (pround hP.out hb2)
                     obtain ⟨p0, p1, p2, -⟩ := vfacts H2'.out.1.r0
                     obtain ⟨q0, q1, q2, q3, q4, q5, q6, q7, -⟩ := vfacts8 H2'.out.2
                     have k1 := lt_of H2'.out.1.r0
                     have k2 := lt_of H2'.out.2
                     clear hb2)
                  | (go_at_call 39
                     refine (opcheck_any _ (opF (opN x.op)) (opN x.op == 1) x ar ((xs.length : Int) - 1 - n) _ (HS.out ▸ (H2'.out.1.tb.fs (opN x.op)).below (below1 _ _)) (opF_len _)).mono ?_
                     rintro e w3 ⟨rfl, hb3⟩
                     rw [HE.out]
                     have H3 := hid (Pst.below (H2'.out.1.below (below1 _ _)) hb3)
                     clear hb3))
                go_roundw
                case rel => exact ⟨n + 1, by omega, by go_num, H3, HK2⟩
                case measure => simp [intOf]; omega
              · rw [if_neg he] at hk2
                rw [insErr, if_pos hop] at he hk2
                obtain ⟨E, hE⟩ : ∃ E, E = opErr (opF (opN x.op)) (opN x.op == 1) x ar ((xs.length : Int) - 1 - n) := ⟨_, rfl⟩
                rw [← hE] at he hk2
                have he2 : (E == 0) = false := by simpa using he
                have HE := hid hE
                have HK2 := hid hk2
                have HO := hid hop
                clear hk2 hK hdrop he hx hat hop hsS hE
                go_wp2_with (first
                  | (go_at_call 38
                     refine (find_any G x.op _ (hP.out.tb.below (below1 wr _))).mono ?_
                     rintro e w2 ⟨rfl, hb2⟩
                     rw [findV, HS.out, decide_eq_true HO.out]
                     have H2' := hid (pround hP.out hb2)
                     obtain ⟨p0, p1, p2, -⟩ := vfacts H2'.out.1.r0
                     obtain ⟨q0, q1, q2, q3, q4, q5, q6, q7, -⟩ := vfacts8 H2'.out.2
                     have k1 := lt_of H2'.out.1.r0
                     have k2 := lt_of H2'.out.2
                     clear hb2)
                  | (go_at_call 39
                     refine (opcheck_any _ (opF (opN x.op)) (opN x.op == 1) x ar ((xs.length : Int) - 1 - n) _ (HS.out ▸ (H2'.out.1.tb.fs (opN x.op)).below (below1 _ _)) (opF_len _)).mono ?_
                     rintro e w3 ⟨rfl, hb3⟩
                     rw [← HE.out]
                     have H3 := hid (Pst.below (H2'.out.1.below (below1 _ _)) hb3)
                     clear hb3))
                go_ret2
                have := HK2.out
                simp only [Prod.mk.injEq] at this
                obtain ⟨rfl, rfl⟩ := this
                exact ⟨rfl, H3.out.hb⟩
            · rw [insErr, if_neg hop, if_neg (by omega)] at hk2
              have HK2 := hid hk2
              have HO := hid hop
              clear hk2 hK hdrop hx hat hop hsS
              go_wp2_with (first
                | (go_at_call 38
                   refine (find_any G x.op _ (hP.out.tb.below (below1 wr _))).mono ?_
                   rintro e w2 ⟨rfl, hb2⟩
                   rw [findV, HS.out, decide_eq_false HO.out]
                   have H2' := hid (pround hP.out hb2)
                   obtain ⟨p0, p1, p2, -⟩ := vfacts H2'.out.1.r0
                   obtain ⟨q0, q1, q2, q3, q4, q5, q6, q7, -⟩ := vfacts8 H2'.out.2
                   have k1 := lt_of H2'.out.1.r0
                   have k2 := lt_of H2'.out.2
                   clear hb2))
              go_ret2
              have := HK2.out
              simp only [Prod.mk.injEq] at this
              obtain ⟨rfl, rfl⟩ := this
              exact ⟨rfl, (H2'.out.1.below (below1 _ _)).hb⟩
          · have hdrop : xs.drop n = [] := List.drop_eq_nil_of_le (by omega)
            rw [hdrop] at hK
            have hk2 := hK.out
            rw [codeChk] at hk2
            have HK2 := hid hk2
            clear hK hk2 hdrop
            go_wp2
            go_ret2
            have := HK2.out
            simp only [Prod.mk.injEq] at this
            obtain ⟨rfl, rfl⟩ := this
            exact ⟨rfl, hP.out.hb⟩
      · have HR2 := HR.out
        rw [procChk, if_pos h1, if_pos h2, if_neg h3] at HR2
        have H2 := hid HR2
        have h3' : (64 : Int) < (xs.length : Int) := by omega
        clear HR2 HR h1
        go_enter Tryz.func20, Tryz.ntmps20
        go_wp2_with (first
          | (go_at_call 35; refine (HN.out _).mono ?_; rintro e w' ⟨rfl, e1⟩; rw [e1]; clear e1 w')
          | (go_at_call 36; refine (HW.out _).mono ?_; rintro e w' ⟨rfl, e1⟩; rw [e1]; clear e1 w'))
        go_ret2
        have := H2.out
        simp only [Prod.mk.injEq] at this
        obtain ⟨rfl, rfl⟩ := this
        exact ⟨rfl, hB0.out⟩
    · have h2f : withinB ar 0 16 = false := by simpa using h2
      rw [h2f] at HW
      have HR2 := HR.out
      rw [procChk, if_pos h1, if_neg h2] at HR2
      have H2 := hid HR2
      clear HR2 HR h1 h2
      go_enter Tryz.func20, Tryz.ntmps20
      go_wp2_with (first
        | (go_at_call 35; refine (HN.out _).mono ?_; rintro e w' ⟨rfl, e1⟩; rw [e1]; clear e1 w')
        | (go_at_call 36; refine (HW.out _).mono ?_; rintro e w' ⟨rfl, e1⟩; rw [e1]; clear e1 w'))
      go_ret2
      have := H2.out
      simp only [Prod.mk.injEq] at this
      obtain ⟨rfl, rfl⟩ := this
      exact ⟨rfl, hB0.out⟩
  · have h1f : nameB nm = false := by simpa using h1
    rw [h1f] at HN
    have HR2 := HR.out
    rw [procChk, if_neg h1] at HR2
    have H2 := hid HR2
    clear HR2 HR h1
    go_enter Tryz.func20, Tryz.ntmps20
    go_wp2_with (first
      | (go_at_call 35; refine (HN.out _).mono ?_; rintro e w' ⟨rfl, e1⟩; rw [e1]; clear e1 w'))
    go_ret2
    have := H2.out
    simp only [Prod.mk.injEq] at this
    obtain ⟨rfl, rfl⟩ := this
    exact ⟨rfl, hB0.out⟩
end Go.Proofs.YthcoigbkdbkojabGreat
namespace Go.Proofs.YthcoigbkdbkojabGreat
open Go.RowKit Go.MapKept
open V (hp_new hp_lt hp_below hp_alloc)
structure Mc where
  vw : Value
  av : Value
  rg : Int → Vd
  td : List Vd
  lk : List (ByteArray × ByteArray)
  kv : List (ByteArray × Value)
def Mc.ms (c : Mc) (pc : Int) (tv lv : Value) (M : Nat) : Ms := ⟨c.vw, c.av, pc, c.rg, tv, .map (some M), lv⟩
def MY (w : World) (B mb M : Nat) (pc : Int) (c : Mc) : Prop := ∃ tv lv, MX w B mb (c.ms pc tv lv M) c.td c.lk M c.kv
theorem MX.notSx {w : World} {B mb M : Nat} {s : Ms} {td : List Vd} {lk : List (ByteArray × ByteArray)} {kv : List (ByteArray × Value)} (h : MX w B mb s td lk M kv) {k : Nat} {cs : Array Value} {t : TypeId} (hk : w.heap[k]? = some (.cells cs t (0, 0))) (h1 : t ≠ 77) (h2 : t ≠ 29) (h3 : t ≠ 55) : ¬ Sx s mb M k := by
  rintro (e | e | e | e)
  · obtain ⟨cs2, hb, -⟩ := h.m.ex
    rw [← e, hk] at hb
    injection hb with hb
    injection hb with _ hb
    exact h1 hb
  · obtain ⟨es, c, g⟩ := h.mg
    have hb := g.blk
    rw [← e, hk] at hb
    cases hb
  · exact owns_blk h.td e hk (fun cs e => by injection e with _ e; exact h2 e)
  · exact owns_blk h.lk e hk (fun cs e => by injection e with _ e; exact h3 e)
structure RB (w : World) (r mb : Nat) : Prop where
  b : w.heap[r]? = some (.cells #[.pointer (some ⟨mb, 0, none⟩)] 73 (0, 0))
  e : w.heap[r + 1]? = some (.cells #[.int .i64 0, .int .i64 0, .slice none 0 0, .slice none 0 0, .slice none 0 0] 40 (0, 0))
  t : w.heap[r + 2]? = some opTab
theorem RB.below {w w' : World} {r mb : Nat} (h : RB w r mb) (hb : Below w.heap.size w w') : RB w' r mb := ⟨blk_of hb h.b (hp_lt h.b), blk_of hb h.e (hp_lt h.e), blk_of hb h.t (hp_lt h.t)⟩
theorem RB.kept {w w' : World} {r mb : Nat} (h : RB w r mb) {B M : Nat} {s : Ms} {td : List Vd} {lk : List (ByteArray × ByteArray)} {kv : List (ByteArray × Value)} (hm : MX w B mb s td lk M kv) (hk : Kept (Sx s mb M) w w') : RB w' r mb :=
  ⟨hpk h.b hk (hm.notSx h.b (by decide) (by decide) (by decide)), hpk h.e hk (hm.notSx h.e (by decide) (by decide) (by decide)), hpk h.t hk (hm.notSx h.t (by decide) (by decide) (by decide))⟩
theorem tab_fn {w : World} {r : Nat} (h : w.heap[r]? = some opTab) (o : Nat) (h1 : 1 ≤ o) (h2 : o ≤ 15) : w.cell? ⟨r, o, none⟩ = some (.func (.func (62 + o)) #[] #[]) := by
  rw [cell_of_row _ _ _ _ _ _ h]
  rcases (by omega : o = 1 ∨ o = 2 ∨ o = 3 ∨ o = 4 ∨ o = 5 ∨ o = 6 ∨ o = 7 ∨ o = 8 ∨ o = 9 ∨ o = 10 ∨ o = 11 ∨ o = 12 ∨ o = 13 ∨ o = 14 ∨ o = 15) with rfl | rfl | rfl | rfl | rfl | rfl | rfl | rfl | rfl | rfl | rfl | rfl | rfl | rfl | rfl <;> rfl
theorem op_in (o : Nat) (h1 : 1 ≤ o) (h2 : o ≤ 15) : ∀ args w, (callFunc (62 + o) args).run Tryz.prog w = .ok (.enter (62 + o) args) w := by
  rcases (by omega : o = 1 ∨ o = 2 ∨ o = 3 ∨ o = 4 ∨ o = 5 ∨ o = 6 ∨ o = 7 ∨ o = 8 ∨ o = 9 ∨ o = 10 ∨ o = 11 ∨ o = 12 ∨ o = 13 ∨ o = 14 ∨ o = 15) with rfl | rfl | rfl | rfl | rfl | rfl | rfl | rfl | rfl | rfl | rfl | rfl | rfl | rfl | rfl
  · exact enters_of Tryz.func63 (by kernel_rfl) rfl
  · exact enters_of Tryz.func64 (by kernel_rfl) rfl
  · exact enters_of Tryz.func65 (by kernel_rfl) rfl
  · exact enters_of Tryz.func66 (by kernel_rfl) rfl
  · exact enters_of Tryz.func67 (by kernel_rfl) rfl
  · exact enters_of Tryz.func68 (by kernel_rfl) rfl
  · exact enters_of Tryz.func69 (by kernel_rfl) rfl
  · exact enters_of Tryz.func70 (by kernel_rfl) rfl
  · exact enters_of Tryz.func71 (by kernel_rfl) rfl
  · exact enters_of Tryz.func72 (by kernel_rfl) rfl
  · exact enters_of Tryz.func73 (by kernel_rfl) rfl
  · exact enters_of Tryz.func74 (by kernel_rfl) rfl
  · exact enters_of Tryz.func75 (by kernel_rfl) rfl
  · exact enters_of Tryz.func76 (by kernel_rfl) rfl
  · exact enters_of Tryz.func77 (by kernel_rfl) rfl
def Goes1 (ws : World) (B mb M : Nat) (pc : Int) (x : Ins) (c c' : Mc) : Prop := ∃ o : Nat, x.op = o ∧ 1 ≤ o ∧ o ≤ 15 ∧ ∀ W tv lv, MX W B mb (c.ms pc tv lv M) c.td c.lk M c.kv → Below B ws W → Calls Tryz.prog (62 + o) #[.pointer (some ⟨mb, 0, none⟩), x.val] W fun e w' => e = .returned (.tuple #[]) ∧ MY w' B mb M pc c' ∧ Kept (Sx (c.ms pc tv lv M) mb M) W w'
theorem eqNil (w : World) : (binOp BinOp.eql 20 .nilIface .nilIface).run Tryz.prog w = .ok (.bool true) w := by kernel_rfl
theorem eqRef (E : Int) (w : World) : (binOp BinOp.eql 20 (.iface 105 (.agg #[.int .i64 E])) .nilIface).run Tryz.prog w = .ok (.bool false) w := by kernel_rfl
theorem taRef (v : Value) (w : World) : (Instr.typeAssert (.iface 105 v) 20 105 true).run Tryz.prog w = .ok (.tuple #[v, .bool true]) w := by kernel_rfl
end Go.Proofs.YthcoigbkdbkojabGreat
