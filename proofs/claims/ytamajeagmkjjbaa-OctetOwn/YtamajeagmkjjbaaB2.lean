import Derived.Test.YtamajeagmkjjbaaB1
import Derived.Test.YtamajeagmkjjbaaWtext
import Derived.Test.YtamajeagmkjjbaaR5
namespace Go.Proofs.Ytamajeagmkjjbaa
open Go.RowKit

/-- Is xs the beginning of ys? -/
def begZ (xs ys : List Int) : Bool := decide (xs.length ≤ ys.length) && decide (xs = ys.take xs.length)

set_option maxRecDepth 100000 in
set_option maxHeartbeats 800000 in
theorem begins_any (a b : Value) (xs ys : List Int) (w : World) (ha : Sl w a xs) (hb : Sl w b ys) (hl : xs.length ≤ 1000000000) :
    Calls Try.prog 24 #[a, b] w fun x w' => DN w w' ∧ x = .returned (.bool (begZ xs ys)) := by
  obtain ⟨r, hr⟩ : ∃ r, r = begZ xs ys := ⟨_, rfl⟩
  rw [← hr]
  have la := fun wx => sl_len ha wx
  have lb := fun wx => sl_len hb wx
  by_cases hle : xs.length ≤ ys.length
  · obtain ⟨rv, hsl, hrv, _⟩ := sl_to hb xs.length hle
    have hr2 : r = decide (xs = ys.take xs.length) := by rw [hr]; unfold begZ; simp [hle]
    have HC := hid (bytes_any a rv xs (ys.take xs.length) w ha hrv hl)
    rw [← hr2] at HC
    have hle2 : (xs.length : Int) ≤ (ys.length : Int) := by omega
    clear hr hr2 ha hb hrv hle
    go_enter Try.func24, Try.ntmps24
    go_wp2_with (go_at_call 13; refine HC.out.mono ?_; rintro x w' ⟨hd, rfl⟩)
    go_ret
    exact ⟨by assumption, rfl⟩
  · have hr2 : r = false := by rw [hr]; unfold begZ; simp [hle]
    subst hr2
    have hle2 : (ys.length : Int) < (xs.length : Int) := by omega
    clear hr ha hb hle
    go_enter Try.func24, Try.ntmps24
    go_wp2
    go_ret
    exact ⟨DN.refl _, rfl⟩

/-- A new Writer. -/
theorem wr_new (B : Nat) (w : World) (_hB : B ≤ w.heap.size) : Wr B (w.alloc (.cells #[.slice none 0 0, .int .i64 0] 29)) w.heap.size none [] 0 :=
  ⟨_, heap_alloc_new w _, rfl, World.ownsRow_nil _ _ _ _⟩

theorem Own.kept {w w' : World} {g : Nat} {bs : List Int} {S : Nat → Prop} (h : Own w g bs) (hk : Kept S w w') (hn : ¬ S g) : Own w' g bs := by
  unfold Own at h ⊢
  rw [hk.block g (Array.getElem?_eq_some_iff.1 h).1 hn]
  exact h

theorem Own.lt {w : World} {g : Nat} {bs : List Int} (h : Own w g bs) : g < w.heap.size := (Array.getElem?_eq_some_iff.1 h).1

theorem Own.sl {w : World} {g : Nat} {bs : List Int} (h : Own w g bs) (hl : bs.length ≤ 1000000000) : Sl w (.slice (some ⟨g, 0, none⟩) bs.length bs.length) bs :=
  sl_of_owns (h.owns (B := 0) (Nat.zero_le _) (by unfold maxLen; omega))

/-- The rows that 'rows' answers. -/
def numB (n : Int) : List Int := (wnumZ ([], 0) n).1
def intB (i : Int) : List Int := (wintZ ([], 0) i).1

theorem numB_len (n : Int) : (numB n).length ≤ 11 := by
  unfold numB wnumZ
  rw [if_pos rfl]
  split
  · simp
  · have := rowF_le 10 n; simpa using this
theorem intB_len (n : Int) : (intB n).length ≤ 11 := by
  unfold intB wintZ
  rw [if_pos rfl]
  have := rowF_le 10 (foldZ n); simpa using this

set_option maxRecDepth 100000 in
set_option maxHeartbeats 1600000 in
theorem rows_any (n i : Int) (w : World) (hn1 : n < 9223372036854775808) (hi0 : -9223372036854775808 ≤ i) (hi1 : i < 9223372036854775808) :
    Calls Try.prog 23 #[.int .i64 n, .int .i64 i] w fun x w' => ∃ g1 g2, x = .returned (.tuple #[.slice (some ⟨g1, 0, none⟩) (numB n).length (numB n).length, .slice (some ⟨g2, 0, none⟩) (intB i).length (intB i).length]) ∧
      Own w' g1 (numB n) ∧ Own w' g2 (intB i) ∧ w.heap.size ≤ g1 ∧ w.heap.size ≤ g2 ∧ Below w.heap.size w w' := by
  obtain ⟨N, hN⟩ : ∃ N, N = numB n := ⟨_, rfl⟩
  obtain ⟨I, hI⟩ : ∃ I, I = intB i := ⟨_, rfl⟩
  have lN := numB_len n
  have lI := intB_len i
  rw [← hN, ← hI]
  rw [← hN] at lN
  rw [← hI] at lI
  have HN := hid hN
  have HI := hid hI
  clear hN hI
  go_enter Try.func23, Try.ntmps23
  go_wp2_with fail
  have a1 : Wr w.heap.size ((w.alloc (.cells #[.slice none 0 0, .int .i64 0] 29)).alloc (.cells #[.slice none 0 0, .int .i64 0] 29)) w.heap.size none [] 0 :=
    (wr_new w.heap.size w (Nat.le_refl _)).kept ((Kept.refl (fun _ => False) _).alloc _) (fun h => h) (fun _ _ h => h)
  have a2 : Wr w.heap.size ((w.alloc (.cells #[.slice none 0 0, .int .i64 0] 29)).alloc (.cells #[.slice none 0 0, .int .i64 0] 29)) (w.heap.size + 1) none [] 0 := by
    have := wr_new w.heap.size (w.alloc (.cells #[.slice none 0 0, .int .i64 0] 29)) (by simp)
    simpa using this
  have hb0 : Below w.heap.size w ((w.alloc (.cells #[.slice none 0 0, .int .i64 0] 29)).alloc (.cells #[.slice none 0 0, .int .i64 0] 29)) := ((Below.refl _ _).alloc (Nat.le_refl _) _).alloc (by simp) _
  have hs0 : ((w.alloc (.cells #[.slice none 0 0, .int .i64 0] 29)).alloc (.cells #[.slice none 0 0, .int .i64 0] 29)).heap.size = w.heap.size + 2 := by simp
  refine (wnum_any w.heap.size w.heap.size none [] 0 _ n a1 (by rw [hs0]; omega) hn1 (by simp)).mono ?_
  rintro x w3 ⟨rfl, g1, b1, b2, b3⟩
  rw [show (wnumZ ([], 0) n).1 = N from HN.out.symm] at b1
  have hb3 : Below w.heap.size w w3 := hb0.trans (b3.below (by rw [hs0]; omega) (fun k hk h => by rcases h with h | h; omega; cases h))
  have a2' := a2.kept b3 (fun h => by rcases h with h | h; omega; cases h) (fun k h => by cases h)
  have hg1 : ∀ k, g1 = some k → w.heap.size + 2 ≤ k := fun k h => by
    rcases b2 with rfl | ⟨j, h1, rfl⟩
    · cases h
    · rw [hs0] at h1; injection h; omega
  have hz3 : w.heap.size + 2 ≤ w3.heap.size := by have := b3.size; rw [hs0] at this; exact this
  have H1 := hid b1
  have H2 := hid a2'
  clear b1 b2 b3 a1 a2 a2' hb0 hs0
  go_wp2_with fail
  refine (wint_any w.heap.size (w.heap.size + 1) none [] 0 w3 i H2.out (by omega) hi0 hi1 (by simp)).mono ?_
  rintro x w4 ⟨rfl, g2, b1, b2, b3⟩
  rw [show (wintZ ([], 0) i).1 = I from HI.out.symm] at b1
  have hb4 : Below w.heap.size w w4 := hb3.trans (b3.below (by omega) (fun k hk h => by rcases h with h | h; omega; cases h))
  have H3 := hid (H1.out.kept b3 (fun h => by rcases h with h | h; omega; cases h) (fun k h hs => by have := hg1 k h; rcases hs with hs | hs; omega; cases hs))
  have hz4 : w3.heap.size ≤ w4.heap.size := b3.size
  have H4 := hid b1
  clear b1 b2 b3 H1 H2 hb3
  go_wp2_with fail
  refine (wdata_any w.heap.size w.heap.size g1 N _ w4 H3.out (by omega)).mono ?_
  rintro x w5 ⟨rfl, b1, b2⟩
  have H5 := hid b1
  have H6 := hid (H4.out.kept (Kept.ofBelow b2) (fun h => h) (fun _ _ h => h))
  have hb5 : Below w.heap.size w w5 := hb4.trans (b2.mono (by omega))
  have hz5 := H5.out.lt
  clear b1 b2 H3 H4 hb4
  go_wp2_with fail
  refine (wdata_any w.heap.size (w.heap.size + 1) g2 I _ w5 H6.out (by omega)).mono ?_
  rintro x w6 ⟨rfl, b1, b2⟩
  have H7 := hid b1
  have H8 := hid (H5.out.kept (Kept.ofBelow b2) (fun h => h))
  have hb6 : Below w.heap.size w w6 := hb5.trans (b2.mono (by omega))
  clear b1 b2 H5 H6 hb5
  go_wp2
  go_ret2
  exact ⟨_, _, rfl, H8.out, H7.out, by omega, by omega, hb6⟩

end Go.Proofs.Ytamajeagmkjjbaa
