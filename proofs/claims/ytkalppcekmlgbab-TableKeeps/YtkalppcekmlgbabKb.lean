import Derived.Test.YtkalppcekmlgbabKa
namespace Go.Proofs.Ytkalppcekmlgbab
open Go.RowKit

set_option maxRecDepth 100000 in
set_option maxHeartbeats 800000 in
theorem newT (w : World) : Calls Try.prog 12 #[] w fun x w' => x = .returned (.pointer (some ⟨w.heap.size, 0, none⟩)) ∧ U0 w' w.heap.size ∧ Below w.heap.size w w' := by
  go_enter Try.func12, Try.ntmps12
  go_wp2
  go_ret
  exact ⟨rfl, hp_new w _, below_new _ _⟩

set_option maxRecDepth 100000 in
set_option maxHeartbeats 800000 in
theorem withT (b : Nat) (w : World) : Calls Try.prog 37 #[.pointer none, .pointer (some ⟨b, 0, none⟩)] w fun x w' => x = .returned (.pointer (some ⟨b, 0, none⟩)) ∧ w' = w := by
  go_enter Try.func37, Try.ntmps37
  go_wp2
  go_ret
  exact ⟨rfl, rfl⟩

def PutTP (w : World) (p : Nat) (key : ByteArray) (n : Int) (lv : Value) : Ending → World → Prop := fun x w' => (∃ v, x = .returned v) ∧ ∃ b, U1 w' p b key n lv ∧ Kept (fun j => j = p) w w' ∧ w.heap.size ≤ b

abbrev twoT (w : World) (n : Int) (lv : Value) : World := (w.alloc (.cells #[.int .i64 n, lv] 40)).alloc (.cells #[.int .i64 0, .slice none 0 0] 40)
theorem twoT_below (w : World) (n : Int) (lv : Value) : Below w.heap.size w (twoT w n lv) := (below_new _ _).alloc (by simp) _

set_option maxRecDepth 100000 in
theorem load_aggT {w : World} {r : Nat} {a b : Value} (hb : w.heap[r]? = some (.cells #[a, b] 40 (0, 0))) : (loadVar 40 ⟨r, 0, none⟩).run Try.prog w = .ok (.agg #[a, b]) w := by
  obtain ⟨c0, c1⟩ := cells2 hb
  simp [go_sem, c0, c1]
theorem ret_aggT {fn : Func} {p u : Tmp} (h : fn.results = #[.cell p 40, .tmp u]) {tmps : Array Value} {r : Nat} {w : World} {a b : Value} (ht : tmps.getD p undef = .pointer (some ⟨r, 0, none⟩)) (hb : w.heap[r]? = some (.cells #[a, b] 40 (0, 0))) :
    (results fn tmps).run Try.prog w = .ok (.tuple #[.agg #[a, b], tmps.getD u undef]) w := by
  rw [results_cell_tmp h, ht]
  simp [Result.andThen, load_aggT hb, asAddr]
theorem set2 {w : World} {r : Nat} {a b : Value} {t : TypeId} (h : w.heap[r]? = some (.cells #[a, b] t (0, 0))) (x y : Value) :
    ((w.setCell ⟨r, 0, none⟩ x).setCell ⟨r, 1, none⟩ y).heap[r]? = some (.cells #[x, y] t (0, 0)) := by
  simp [World.setCell, Array.getElem?_modify, h]

/-- Behind the store of the root. -/
structure PX (w X : World) (p b : Nat) (key : ByteArray) (n : Int) (lv : Value) : Prop where
  tb : X.heap[p]? = some (.cells #[.pointer (some ⟨b, 0, none⟩), .int .i64 0] 77 (0, 0))
  nd : X.heap[b]? = some (.cells #[.string key, .int .i64 n, lv, .pointer none, .pointer none, .int .i64 1] 85 (0, 0))
  rs : X.heap[w.heap.size + 1]? = some (.cells #[.int .i64 0, .slice none 0 0] 40 (0, 0))
  kp : Kept (fun j => j = p) w X
  hb : w.heap.size + 2 ≤ b

theorem px_of {w w1 w2 : World} {p : Nat} {key : ByteArray} {n : Int} {lv : Value} (h : U0 w p) (h1 : Below w.heap.size w w1) (hr : w1.heap[w.heap.size + 1]? = some (.cells #[.int .i64 0, .slice none 0 0] 40 (0, 0))) (h2 : Below w1.heap.size w1 w2) :
    PX w ((w2.setCell ⟨p, 0, none⟩ (.pointer (some ⟨w2.heap.size, 0, none⟩))).alloc (.cells #[.string key, .int .i64 n, lv, .pointer none, .pointer none, .int .i64 1] 85)) p w2.heap.size key n lv := by
  have hz := hp_lt h
  have hb := below_on h1 h2
  have hp2 := hp_below h hb hz
  have hr2 := hp_below hr h2 (hp_lt hr)
  have hrz := hp_lt hr2
  have hs : (w2.setCell ⟨p, 0, none⟩ (.pointer (some ⟨w2.heap.size, 0, none⟩))).heap.size = w2.heap.size := by simp [World.setCell]
  refine ⟨hp_alloc (set_block (i := 0) hp2 _) _, ?_, hp_alloc (hp_set hr2 (by show w.heap.size + 1 ≠ p; omega) _) _, (((Kept.ofBelow hb).mono (S' := fun j => j = p) (fun _ _ e => e.elim)).setCell (p := ⟨p, 0, none⟩) (fun _ => rfl) _).alloc _, by omega⟩
  have := hp_new (w2.setCell ⟨p, 0, none⟩ (.pointer (some ⟨w2.heap.size, 0, none⟩))) (.cells #[.string key, .int .i64 n, lv, .pointer none, .pointer none, .int .i64 1] 85)
  rw [hs] at this
  exact this

theorem putT_fin {V : Value} {w X : World} {p b : Nat} {key : ByteArray} {n : Int} {lv : Value} (h : PX w X p b key n lv) (hz : p < w.heap.size) (o : Obj) : PutTP w p key n lv (.returned V) ((((X.setCell ⟨p, 1, none⟩ (.int .i64 1)).setCell ⟨w.heap.size + 1, 0, none⟩ (.int .i64 0)).setCell ⟨w.heap.size + 1, 1, none⟩ (.slice none 0 0)).alloc o) := by
  have hb := h.hb
  refine ⟨⟨_, rfl⟩, b, ⟨?_, ?_⟩, ?_, by omega⟩
  · exact hp_alloc (hp_set (hp_set (set_block (i := 1) h.tb _) (by show p ≠ w.heap.size + 1; omega) _) (by show p ≠ w.heap.size + 1; omega) _) _
  · exact hp_alloc (hp_set (hp_set (hp_set h.nd (by show b ≠ p; omega) _) (by show b ≠ w.heap.size + 1; omega) _) (by show b ≠ w.heap.size + 1; omega) _) _
  · exact (((h.kp.setCell (p := ⟨p, 1, none⟩) (fun _ => rfl) _).setCell (p := ⟨w.heap.size + 1, 0, none⟩) (fun e => absurd e (by show ¬ w.heap.size + 1 < w.heap.size; omega)) _).setCell (p := ⟨w.heap.size + 1, 1, none⟩) (fun e => absurd e (by show ¬ w.heap.size + 1 < w.heap.size; omega)) _).alloc _

set_option maxRecDepth 100000 in
set_option maxHeartbeats 8000000 in
theorem putT (p : Nat) (key : ByteArray) (n : Int) (ao : Option Addr) (ln cp : Nat) (w : World) (h : U0 w p) (hk : key.size ≤ 281474976710656) :
    Calls Try.prog 17 #[.pointer (some ⟨p, 0, none⟩), .string key, .agg #[.int .i64 n, .slice ao ln cp]] w (PutTP w p key n (.slice ao ln cp)) := by
  have hz := hp_lt h
  have B0 := hid (twoT_below w n (.slice ao ln cp))
  have AT := hid (atT p key (twoT w n (.slice ao ln cp)) none (.inl ⟨hp_below h B0.out hz, rfl⟩))
  have CL := hid (fun W => clone_any key W hk)
  have WT := hid withT
  have HU := hid h
  have hne : p ≠ w.heap.size := by omega
  have hne' : w.heap.size ≠ p := by omega
  have hv : (twoT w n (.slice ao ln cp)).heap[w.heap.size]? = some (.cells #[.int .i64 n, .slice ao ln cp] 40 (0, 0)) := hp_alloc (hp_new _ _) _
  have hr : (twoT w n (.slice ao ln cp)).heap[w.heap.size + 1]? = some (.cells #[.int .i64 0, .slice none 0 0] 40 (0, 0)) := by
    have := hp_new (w.alloc (.cells #[.int .i64 n, .slice ao ln cp] 40)) (.cells #[.int .i64 0, .slice none 0 0] 40)
    simpa using this
  have HV := hid (And.intro hv hr)
  generalize hP : PutTP w p key n (.slice ao ln cp) = PP
  have HP := hid hP
  clear h hk hP hv hr
  go_enter Try.func17, Try.ntmps17
  go_wp2_with (
    go_at_call 36
    refine AT.out.mono ?_
    rintro e w1 ⟨rfl, hb⟩
    have B1 := hid (below_on B0.out hb)
    obtain ⟨c0, c1⟩ := cells2 (hp_below HU.out B1.out hz)
    obtain ⟨v0, v1⟩ := cells2 (hp_below HV.out.1 hb (hp_lt HV.out.1))
    have F1 := hid (And.intro hb (And.intro (hp_below HV.out.1 hb (hp_lt HV.out.1)) (hp_below HV.out.2 hb (hp_lt HV.out.2))))
    clear hb)
  refine Code.wp_mono (Q := NoPanic (fun ex a' w' => ∃ b, ex = Exit.normal ∧ a' = { tmps := #[Value.pointer (some ⟨p, 0, none⟩), Value.string key, Value.agg #[Value.int .i64 n, Value.slice ao ln cp], undef, undef, Value.pointer (some ⟨w.heap.size, 0, none⟩), Value.pointer (some ⟨w.heap.size + 1, 0, none⟩), Value.bool false, Value.pointer none, undef, Value.pointer (some ⟨p, 0, none⟩), Value.bool false, undef, undef, undef, Value.pointer (some ⟨p, 0, none⟩), Value.string key, Value.pointer none, Value.pointer none, Value.bool false, undef, undef, undef, undef, undef, undef, undef, undef, undef, Value.pointer (some ⟨p, 0, none⟩), Value.pointer (some ⟨p, 0, none⟩), Value.pointer (some ⟨p, 0, none⟩), Value.pointer (some ⟨p, 0, none⟩), Value.pointer none, Value.string key, Value.string key, Value.agg #[Value.int .i64 n, Value.slice ao ln cp], Value.agg #[Value.string key, Value.int .i64 n, Value.slice ao ln cp, Value.pointer none, Value.pointer none, Value.int .i64 1], Value.pointer (some ⟨b, 0, none⟩), Value.pointer (some ⟨b, 0, none⟩), Value.pointer (some ⟨p, 0, none⟩), Value.pointer (some ⟨p, 0, none⟩), undef, undef, undef, undef, undef, undef, undef, undef, undef, undef], defers := [] } ∧ Hid (PX w w' p b key n (.slice ao ln cp)))) ?mono ?reg
  case' reg =>
    go_region_with
      (first
        | (go_at_call 28
           refine (CL.out _).mono ?_
           rintro e w2 ⟨rfl, hb⟩
           have B2 := hid (below_on B1.out (undrew hb))
           have E2 := hid (show Below w1.heap.size w1 w2 from undrew hb)
           obtain ⟨d0, d1⟩ := cells2 (hp_below HU.out B2.out hz)
           obtain ⟨v2, v3⟩ := cells2 (hp_below F1.out.2.1 E2.out (hp_lt F1.out.2.1))
           have hz2 : p < w2.heap.size := Nat.lt_of_lt_of_le hz B2.out.size
           have bn := below_new w2 (.cells #[.string key, .int .i64 n, .slice ao ln cp, .pointer none, .pointer none, .int .i64 1] 85)
           obtain ⟨f0, f1⟩ := cells2 (hp_below (hp_below HU.out B2.out hz) bn hz2)
           obtain ⟨v4, v5⟩ := cells2 (hp_below (hp_below F1.out.2.1 E2.out (hp_lt F1.out.2.1)) bn (Nat.lt_of_lt_of_le (hp_lt F1.out.2.1) E2.out.size))
           have ff : ∀ j, (w2.alloc (.cells #[.string key, .int .i64 n, .slice ao ln cp, .pointer none, .pointer none, .int .i64 1] 85)).frozen? ⟨p, j, none⟩ = false := fun j => free_of_block (hp_below (hp_below HU.out B2.out hz) bn hz2)
           clear hb bn)
        | (go_at_call 37
           refine (WT.out _ _).mono ?_
           rintro e w3 ⟨rfl, e3⟩
           rw [e3]
           clear e3 w3))
    all_goals exact ⟨w2.heap.size, rfl, rfl, hid (px_of HU.out B1.out F1.out.2.2 E2.out)⟩
  case' mono =>
    intro ex a' X hX
    cases ex with
    | panic c => exact hX.elim
    | normal =>
      obtain ⟨b, -, rfl, XX⟩ := hX
      obtain ⟨x0, x1⟩ := cells2 XX.out.tb
      obtain ⟨r0, r1⟩ := cells2 XX.out.rs
      have xf : ∀ j, X.frozen? ⟨p, j, none⟩ = false := fun j => free_of_block XX.out.tb
      have rf : ∀ j, X.frozen? ⟨w.heap.size + 1, j, none⟩ = false := fun j => free_of_block XX.out.rs
      have hxz := hp_lt XX.out.rs
      have hpz : p < X.heap.size := hp_lt XX.out.tb
      have hne3 : p ≠ w.heap.size + 1 := by omega
      have hne4 : p ≠ X.heap.size := by omega
      go_wp2
      refine bodyPost_ret (ret_aggT Try.results17 rfl (hp_alloc (set2 (hp_set XX.out.rs (by show w.heap.size + 1 ≠ p; omega) _) _ _) _)) rfl ?_
      rw [← HP.out]
      exact putT_fin XX.out hz _
    | _ => obtain ⟨b, e, -⟩ := hX; cases e

set_option maxRecDepth 100000 in
set_option maxHeartbeats 2000000 in
/-- Get of the key that is there. -/
theorem getT1 (p b : Nat) (key : ByteArray) (n : Int) (ao : Option Addr) (ln cp : Nat) (w : World) (h : U1 w p b key n (.slice ao ln cp)) :
    Calls Try.prog 18 #[.pointer (some ⟨p, 0, none⟩), .string key] w fun x w' => x = .returned (.tuple #[.agg #[.int .i64 n, .slice ao ln cp], .bool true]) ∧ Below w.heap.size w w' := by
  have B0 := hid (below_new w (.cells #[.int .i64 0, .slice none 0 0] 40))
  have AT := hid (atT p key (w.alloc (.cells #[.int .i64 0, .slice none 0 0] 40)) (some ⟨b, 0, none⟩) (.inr ⟨b, key, n, _, h.below B0.out, by rw [if_pos rfl]⟩))
  have HU := hid h
  clear h
  go_enter Try.func18, Try.ntmps18
  go_wp2_with (
    go_at_call 36
    refine AT.out.mono ?_
    rintro e w1 ⟨rfl, hb⟩
    have B1 := hid (below_on B0.out hb)
    obtain ⟨d0, d1, d2, -, -, -⟩ := cells6 (HU.out.below B1.out).nd
    have hr := hp_below (hp_new w (.cells #[.int .i64 0, .slice none 0 0] 40)) hb (by simp)
    obtain ⟨r0, r1⟩ := cells2 hr
    have rf : ∀ j, w1.frozen? ⟨w.heap.size, j, none⟩ = false := fun j => free_of_block hr
    have HR := hid hr
    clear hb hr)
  refine bodyPost_ret (ret_aggT Try.results18 rfl (set2 HR.out _ _)) rfl ?_
  exact ⟨rfl, (B1.out.setCell (p := ⟨w.heap.size, 0, none⟩) (Nat.le_refl _) _).setCell (p := ⟨w.heap.size, 1, none⟩) (Nat.le_refl _) _⟩

set_option maxRecDepth 100000 in
set_option maxHeartbeats 2000000 in
/-- Get of another key. -/
theorem getT2 (p b : Nat) (key text : ByteArray) (n : Int) (lv : Value) (w : World) (h : U1 w p b key n lv) (hne : key ≠ text) :
    Calls Try.prog 18 #[.pointer (some ⟨p, 0, none⟩), .string text] w fun x w' => x = .returned (.tuple #[.agg #[.int .i64 0, .slice none 0 0], .bool false]) ∧ Below w.heap.size w w' := by
  have B0 := hid (below_new w (.cells #[.int .i64 0, .slice none 0 0] 40))
  have AT := hid (atT p text (w.alloc (.cells #[.int .i64 0, .slice none 0 0] 40)) none (.inr ⟨b, key, n, _, h.below B0.out, by rw [if_neg hne]⟩))
  clear h hne
  go_enter Try.func18, Try.ntmps18
  go_wp2_with (
    go_at_call 36
    refine AT.out.mono ?_
    rintro e w1 ⟨rfl, hb⟩
    have B1 := hid (below_on B0.out hb)
    have hr := hp_below (hp_new w (.cells #[.int .i64 0, .slice none 0 0] 40)) hb (by simp)
    obtain ⟨r0, r1⟩ := cells2 hr
    have rf : ∀ j, w1.frozen? ⟨w.heap.size, j, none⟩ = false := fun j => free_of_block hr
    have hz1 := hp_lt hr
    have HR := hid hr
    clear hb hr)
  refine bodyPost_ret (ret_aggT Try.results18 rfl (hp_alloc (set2 HR.out _ _) _)) rfl ?_
  exact ⟨rfl, (((B1.out.setCell (p := ⟨w.heap.size, 0, none⟩) (Nat.le_refl _) _).setCell (p := ⟨w.heap.size, 1, none⟩) (Nat.le_refl _) _).alloc (Nat.le_of_lt (by simpa [World.setCell] using hz1)) _)⟩

end Go.Proofs.Ytkalppcekmlgbab
