import Derived.Test.YtiammlngbejhkaaK04
namespace Go.Proofs.Ytiammlngbejhkaa
open Go.RowKit Go.Lib

/-- Values in their blocks, behind what was there at the beginning. -/
def Kf (w W : World) (l : List (Nat × Int × Int × ByteArray)) : Prop := Below w.heap.size w W ∧ ∀ x ∈ l, W.heap[x.1]? = some (vo x.2.1 x.2.2.1 x.2.2.2)

theorem Kf.nil {w W : World} (h : Below w.heap.size w W) : Kf w W [] := ⟨h, fun _ h => by cases h⟩
theorem Kf.below {w W W' : World} {l : List (Nat × Int × Int × ByteArray)} (h : Kf w W l) (hb : Below W.heap.size W W') : Kf w W' l :=
  ⟨below_on h.1 hb, fun x hx => blk_of hb (h.2 x hx) (lt_of (h.2 x hx))⟩
theorem Kf.alloc {w W : World} {l : List (Nat × Int × Int × ByteArray)} (h : Kf w W l) (k i : Int) (s : ByteArray) : Kf w (W.alloc (vo k i s)) ((W.heap.size, k, i, s) :: l) := by
  refine ⟨h.1.alloc h.1.size _, ?_⟩
  intro x hx
  rcases List.mem_cons.1 hx with rfl | hx
  · exact heap_alloc_new W _
  · exact (Below.heap_alloc _ _ _ (lt_of (h.2 x hx))).trans (h.2 x hx)
theorem Kf.at {w W : World} {l : List (Nat × Int × Int × ByteArray)} (h : Kf w W l) {q : Nat} {k i : Int} {s : ByteArray} (hm : (q, k, i, s) ∈ l) : W.heap[q]? = some (vo k i s) := h.2 _ hm

/-- keel, keel-7, a, ab -/
abbrev kKeel : ByteArray := ⟨#[107, 101, 101, 108]⟩
abbrev kKeel7 : ByteArray := ⟨#[107, 101, 101, 108, 45, 55]⟩
abbrev kA : ByteArray := ⟨#[97]⟩
abbrev kAb : ByteArray := ⟨#[97, 98]⟩

theorem k_add (w : World) : Calls Try.prog 18 #[vl 1 40 emp, vl 1 2 emp] w fun e w' => e = .returned (.tuple #[vl 1 42 emp, .int .i64 0]) ∧ Below w.heap.size w w' := by
  refine (add_any 1 40 emp 1 2 emp (by decide) (by decide) w).mono ?_
  rintro e w' ⟨rfl, h⟩
  exact ⟨by simp [rckT, rckV, isI, inR], h⟩
theorem k_sub (w : World) : Calls Try.prog 20 #[vl 1 40 emp, vl 1 2 emp] w fun e w' => e = .returned (.tuple #[vl 1 38 emp, .int .i64 0]) ∧ Below w.heap.size w w' := by
  refine (sub_any 1 40 emp 1 2 emp (by decide) (by decide) w).mono ?_
  rintro e w' ⟨rfl, h⟩
  exact ⟨by simp [rckT, rckV, isI, inR], h⟩
theorem k_mul (w : World) : Calls Try.prog 22 #[vl 1 (-4) emp, vl 1 2 emp] w fun e w' => e = .returned (.tuple #[vl 1 (-8) emp, .int .i64 0]) ∧ Below w.heap.size w w' := by
  refine (mul_any 1 (-4) emp 1 2 emp (by decide) (by decide) w).mono ?_
  rintro e w' ⟨rfl, h⟩
  exact ⟨by simp [rckT, rckV, isI, inR], h⟩
theorem k_join (w : World) : Calls Try.prog 24 #[vl 2 0 kKeel, vl 1 (-7) emp] w fun e w' => e = .returned (.tuple #[vl 2 0 kKeel7, .int .i64 0]) ∧ Below w.heap.size w w' := by
  refine (join_6260 2 0 kKeel 1 (-7) emp w (.string kKeel) (.int .i64 (-7)) ?_ ?_ (strBs kKeel) [45, 55] ?_ ?_ (by decide) (by decide)).mono ?_
  · rcases chd_cases 2 0 kKeel with ⟨h, _⟩ | ⟨_, _, _, h⟩ | ⟨_, _, h⟩
    · omega
    · exact h
    · exact absurd ⟨rfl, rfl, by decide⟩ h
  · rcases chd_cases 1 (-7) emp with ⟨_, _, h⟩ | ⟨h, _⟩ | ⟨_, h, _⟩
    · exact h
    · omega
    · exact absurd ⟨rfl, rfl⟩ h
  · intro B v xs w ho hB _ hl
    exact tlay_any B v xs kKeel w ho hB (by show xs.length + 4 ≤ _; omega)
  · intro B v xs w ho hB _ hl
    exact ilay7 B v xs w ho hB (by omega)
  · rintro e w' ⟨rfl, h⟩
    exact ⟨rfl, h⟩
theorem k_key (w : World) : Calls Try.prog 26 #[vl 2 0 kA] w fun e w' => e = .returned (.tuple #[.string kA, .int .i64 0]) ∧ Below w.heap.size w w' := by
  refine (key_any 2 0 kA w).mono ?_
  rintro e w' ⟨rfl, h⟩
  exact ⟨rfl, h⟩
theorem k_enc (w : World) : Calls Try.prog 28 #[vl 2 0 kAb] w fun e w' => ∃ g, e = .returned (.tuple #[.slice (some ⟨g, 0, none⟩) 4 4, .int .i64 0]) ∧ Own w' g [2, 2, 97, 98] ∧ Below w.heap.size w w' := by
  refine (encode_text kAb (by decide) w).mono ?_
  rintro e w' ⟨g, rfl, h1, _, h2⟩
  exact ⟨g, rfl, h1, h2⟩
theorem k_dec (v : Value) (w : World) (h : Sl w v [1, 128, 1]) : Calls Try.prog 31 #[v] w fun e w' => e = .returned (.tuple #[vl 1 64 emp, .int .i64 0]) ∧ Below w.heap.size w w' := by
  refine (decode_any v [1, 128, 1] w h (by intro x hx; simp at hx; omega) (by decide)).mono ?_
  rintro e w' ⟨rfl, h⟩
  exact ⟨rfl, h⟩

end Go.Proofs.Ytiammlngbejhkaa

namespace Go.Proofs.Ytiammlngbejhkaa
open Go.RowKit Go.Lib

theorem sl_new (w : World) (bs : List Int) (hl : bs.length ≤ maxLen) : Sl (w.alloc (.cells (B8 bs).toArray 5)) (.slice (some ⟨w.heap.size, 0, none⟩) bs.length bs.length) bs :=
  sl_of_owns ((show Own (w.alloc (.cells (B8 bs).toArray 5)) w.heap.size bs from heap_alloc_new _ _).owns (Nat.zero_le _) hl)

theorem own_on {w w' : World} {o : Obj} {g : Nat} {bs : List Int} (h : Own w g bs) (hb : Below (w.alloc o).heap.size (w.alloc o) w') : Own w' g bs := by
  unfold Own at *
  exact blk_of hb ((Below.heap_alloc _ _ _ (lt_of h)).trans h) (by have := lt_of h; simp; omega)

/-- Values in their blocks, and a row of bytes. -/
def Kg (w W : World) (l : List (Nat × Int × Int × ByteArray)) (g : Nat) (bs : List Int) : Prop := Kf w W l ∧ Own W g bs
theorem Kg.below {w W W' : World} {l : List (Nat × Int × Int × ByteArray)} {g : Nat} {bs : List Int} (h : Kg w W l g bs) (hb : Below W.heap.size W W') : Kg w W' l g bs :=
  ⟨h.1.below hb, blk_of hb h.2 (lt_of h.2)⟩

theorem k_cmp (w : World) : Calls Try.prog 12 #[vl 1 9 emp, vl 2 0 emp] w fun e w' => e = .returned (.int .i64 (-1)) ∧ Below w.heap.size w w' := compare_any 1 9 emp 2 0 emp w
theorem k_holds (w : World) : Calls Try.prog 14 #[.int .i64 4, vl 1 3 emp, vl 1 3 emp] w fun e w' => e = .returned (.bool true) ∧ Below w.heap.size w w' := holds_any 4 1 3 emp 1 3 emp w
theorem k_isk0 (w : World) : Calls Try.prog 16 #[.string emp] w fun e w' => e = .returned (.bool false) ∧ w' = w := isKey_any emp w
theorem k_isk1 (w : World) : Calls Try.prog 16 #[.string kA] w fun e w' => e = .returned (.bool true) ∧ w' = w := isKey_any kA w
theorem k_chk (w : World) : Calls Try.prog 10 #[vl 3 0 emp] w fun e w' => e = .returned (.int .i64 14) ∧ Below w.heap.size w w' := check_any 3 0 emp w

set_option maxRecDepth 100000 in
set_option maxHeartbeats 6400000 in
theorem known_any (w : World) : Calls Try.prog 9 #[] w fun x w' => x = .returned (.bool true) ∧ Below w.heap.size w w' := by
  go_enter Try.func9, Try.ntmps9
  go_wp2_with (first
    | (go_at_call 33
       (with_reducible show Calls _ _ _ w _)
       refine (number_any _ _).mono ?_
       rintro e w1 ⟨rfl, hb⟩
       have H1 := hid (Kf.nil hb)
       clear hb)
    | (go_at_call 33
       (with_reducible show Calls _ _ _ w1 _)
       refine (number_any _ _).mono ?_
       rintro e w2 ⟨rfl, hb⟩
       have H2 := hid (H1.out.below hb)
       clear hb)
    | (go_at_call 18
       (with_reducible show Calls _ _ _ w2 _)
       refine (k_add _).mono ?_
       rintro e w3 ⟨rfl, hb⟩
       have H3 := hid (H2.out.below hb)
       clear hb)
    | (go_at_call 33
       (with_reducible show Calls _ _ _ (w3.alloc _) _)
       refine (number_any _ _).mono ?_
       rintro e w4 ⟨rfl, hb⟩
       have H4 := hid ((H3.out.alloc 1 42 emp).below hb)
       clear hb)
    | (go_at_call 33
       (with_reducible show Calls _ _ _ w4 _)
       refine (number_any _ _).mono ?_
       rintro e w5 ⟨rfl, hb⟩
       have H5 := hid (H4.out.below hb)
       clear hb)
    | (go_at_call 20
       (with_reducible show Calls _ _ _ w5 _)
       refine (k_sub _).mono ?_
       rintro e w6 ⟨rfl, hb⟩
       have H6 := hid (H5.out.below hb)
       clear hb)
    | (go_at_call 33
       (with_reducible show Calls _ _ _ (w6.alloc _) _)
       refine (number_any _ _).mono ?_
       rintro e w7 ⟨rfl, hb⟩
       have H7 := hid ((H6.out.alloc 1 38 emp).below hb)
       clear hb)
    | (go_at_call 33
       (with_reducible show Calls _ _ _ w7 _)
       refine (number_any _ _).mono ?_
       rintro e w8 ⟨rfl, hb⟩
       have H8 := hid (H7.out.below hb)
       clear hb)
    | (go_at_call 22
       (with_reducible show Calls _ _ _ w8 _)
       refine (k_mul _).mono ?_
       rintro e w9 ⟨rfl, hb⟩
       have H9 := hid (H8.out.below hb)
       clear hb)
    | (go_at_call 34
       (with_reducible show Calls _ _ _ (w9.alloc _) _)
       refine (text_any _ _).mono ?_
       rintro e w10 ⟨rfl, hb⟩
       have H10 := hid ((H9.out.alloc 1 (-8) emp).below hb)
       clear hb)
    | (go_at_call 33
       (with_reducible show Calls _ _ _ w10 _)
       refine (number_any _ _).mono ?_
       rintro e w11 ⟨rfl, hb⟩
       have H11 := hid (H10.out.below hb)
       clear hb)
    | (go_at_call 24
       (with_reducible show Calls _ _ _ w11 _)
       refine (k_join _).mono ?_
       rintro e w12 ⟨rfl, hb⟩
       have H12 := hid (H11.out.below hb)
       clear hb)
    | (go_at_call 34
       (with_reducible show Calls _ _ _ (w12.alloc _) _)
       refine (text_any _ _).mono ?_
       rintro e w13 ⟨rfl, hb⟩
       have H13 := hid ((H12.out.alloc 2 0 kKeel7).below hb)
       clear hb)
    | (go_at_call 26
       (with_reducible show Calls _ _ _ w13 _)
       refine (k_key _).mono ?_
       rintro e w14 ⟨rfl, hb⟩
       have H14 := hid (H13.out.below hb)
       clear hb)
    | (go_at_call 34
       (with_reducible show Calls _ _ _ w14 _)
       refine (text_any _ _).mono ?_
       rintro e w15 ⟨rfl, hb⟩
       have H15 := hid (H14.out.below hb)
       clear hb)
    | (go_at_call 28
       (with_reducible show Calls _ _ _ w15 _)
       refine (k_enc _).mono ?_
       rintro e w16 ⟨gE, rfl, hoE, hb⟩
       have H16 := hid (And.intro hoE (H15.out.below hb))
       clear hb hoE)
    | (go_at_call 31
       (with_reducible show Calls _ _ _ (w16.alloc _) _)
       refine (k_dec _ _ (sl_new w16 [1, 128, 1] (by decide))).mono ?_
       rintro e w17 ⟨rfl, hb⟩
       have H17 := hid (And.intro (own_on H16.out.1 hb) ((H16.out.2.below (below1 w16 _)).below hb))
       clear hb))
  have J0 := hid (show Kg w (w17.alloc (vo 1 64 emp)) _ gE [2, 2, 97, 98] from ⟨H17.out.2.alloc 1 64 emp, (Below.heap_alloc _ _ _ (lt_of H17.out.1)).trans H17.out.1⟩)
  clear H1 H2 H3 H4 H5 H6 H7 H8 H9 H10 H11 H12 H13 H14 H15 H16 H17
  show Code.wp _ _ _ _ (w17.alloc (vo 1 64 emp))
  obtain ⟨W18, hW18⟩ : ∃ W18, W18 = w17.alloc (vo 1 64 emp) := ⟨_, rfl⟩
  rw [← hW18] at J0 ⊢
  clear hW18
  obtain ⟨v0, v1, v2, -⟩ := vfacts (J0.out.1.at (q := w3.heap.size) (k := 1) (i := 42) (s := emp) (by simp))
  obtain ⟨u0, u1, u2, -⟩ := vfacts (J0.out.1.at (q := w6.heap.size) (k := 1) (i := 38) (s := emp) (by simp))
  obtain ⟨x0, x1, x2, -⟩ := vfacts (J0.out.1.at (q := w9.heap.size) (k := 1) (i := (-8)) (s := emp) (by simp))
  obtain ⟨y0, y1, y2, -⟩ := vfacts (J0.out.1.at (q := w12.heap.size) (k := 2) (i := 0) (s := kKeel7) (by simp))
  obtain ⟨d0, d1, d2, -⟩ := vfacts (J0.out.1.at (q := w17.heap.size) (k := 1) (i := 64) (s := emp) (by simp))
  go_region_held (fun w' => w'.cell? ⟨w3.heap.size, 0, none⟩ = some (.int .i64 1) ∧ w'.cell? ⟨w3.heap.size, 1, none⟩ = some (.int .i64 42) ∧ w'.cell? ⟨w3.heap.size, 2, none⟩ = some (.string emp) ∧ w'.cell? ⟨w6.heap.size, 0, none⟩ = some (.int .i64 1) ∧ w'.cell? ⟨w6.heap.size, 1, none⟩ = some (.int .i64 38) ∧ w'.cell? ⟨w6.heap.size, 2, none⟩ = some (.string emp) ∧ w'.cell? ⟨w9.heap.size, 0, none⟩ = some (.int .i64 1) ∧ w'.cell? ⟨w9.heap.size, 1, none⟩ = some (.int .i64 (-8)) ∧ w'.cell? ⟨w9.heap.size, 2, none⟩ = some (.string emp) ∧ w'.cell? ⟨w12.heap.size, 0, none⟩ = some (.int .i64 2) ∧ w'.cell? ⟨w12.heap.size, 1, none⟩ = some (.int .i64 0) ∧ w'.cell? ⟨w12.heap.size, 2, none⟩ = some (.string kKeel7) ∧ w'.cell? ⟨w17.heap.size, 0, none⟩ = some (.int .i64 1) ∧ w'.cell? ⟨w17.heap.size, 1, none⟩ = some (.int .i64 64) ∧ w'.cell? ⟨w17.heap.size, 2, none⟩ = some (.string emp)) (go_keep) (first
    | (go_at_call 33
       (with_reducible show Calls _ _ #[.int .i64 42] _ _)
       refine (number_any _ _).mono ?_
       rintro e z1 ⟨rfl, hb⟩
       have J1 := hid (J0.out.below ⟨hb.os, hb.tape, hb.output, hb.size, hb.block⟩)
       clear hb
       clear v0 v1 v2 u0 u1 u2 x0 x1 x2 y0 y1 y2 d0 d1 d2
       obtain ⟨v0, v1, v2, -⟩ := vfacts (J1.out.1.at (q := w3.heap.size) (k := 1) (i := 42) (s := emp) (by simp))
       obtain ⟨u0, u1, u2, -⟩ := vfacts (J1.out.1.at (q := w6.heap.size) (k := 1) (i := 38) (s := emp) (by simp))
       obtain ⟨x0, x1, x2, -⟩ := vfacts (J1.out.1.at (q := w9.heap.size) (k := 1) (i := (-8)) (s := emp) (by simp))
       obtain ⟨y0, y1, y2, -⟩ := vfacts (J1.out.1.at (q := w12.heap.size) (k := 2) (i := 0) (s := kKeel7) (by simp))
       obtain ⟨d0, d1, d2, -⟩ := vfacts (J1.out.1.at (q := w17.heap.size) (k := 1) (i := 64) (s := emp) (by simp))
       skip)
    | (go_at_call 33
       (with_reducible show Calls _ _ _ z1 _)
       refine (number_any _ _).mono ?_
       rintro e z2 ⟨rfl, hb⟩
       have J2 := hid (J1.out.below hb)
       clear hb
       clear v0 v1 v2 u0 u1 u2 x0 x1 x2 y0 y1 y2 d0 d1 d2
       obtain ⟨v0, v1, v2, -⟩ := vfacts (J2.out.1.at (q := w3.heap.size) (k := 1) (i := 42) (s := emp) (by simp))
       obtain ⟨u0, u1, u2, -⟩ := vfacts (J2.out.1.at (q := w6.heap.size) (k := 1) (i := 38) (s := emp) (by simp))
       obtain ⟨x0, x1, x2, -⟩ := vfacts (J2.out.1.at (q := w9.heap.size) (k := 1) (i := (-8)) (s := emp) (by simp))
       obtain ⟨y0, y1, y2, -⟩ := vfacts (J2.out.1.at (q := w12.heap.size) (k := 2) (i := 0) (s := kKeel7) (by simp))
       obtain ⟨d0, d1, d2, -⟩ := vfacts (J2.out.1.at (q := w17.heap.size) (k := 1) (i := 64) (s := emp) (by simp))
       skip)
    | (go_at_call 33
       (with_reducible show Calls _ _ _ z2 _)
       refine (number_any _ _).mono ?_
       rintro e z3 ⟨rfl, hb⟩
       have J3 := hid (J2.out.below hb)
       clear hb
       clear v0 v1 v2 u0 u1 u2 x0 x1 x2 y0 y1 y2 d0 d1 d2
       obtain ⟨v0, v1, v2, -⟩ := vfacts (J3.out.1.at (q := w3.heap.size) (k := 1) (i := 42) (s := emp) (by simp))
       obtain ⟨u0, u1, u2, -⟩ := vfacts (J3.out.1.at (q := w6.heap.size) (k := 1) (i := 38) (s := emp) (by simp))
       obtain ⟨x0, x1, x2, -⟩ := vfacts (J3.out.1.at (q := w9.heap.size) (k := 1) (i := (-8)) (s := emp) (by simp))
       obtain ⟨y0, y1, y2, -⟩ := vfacts (J3.out.1.at (q := w12.heap.size) (k := 2) (i := 0) (s := kKeel7) (by simp))
       obtain ⟨d0, d1, d2, -⟩ := vfacts (J3.out.1.at (q := w17.heap.size) (k := 1) (i := 64) (s := emp) (by simp))
       skip)
    | (go_at_call 34
       (with_reducible show Calls _ _ _ z3 _)
       refine (text_any _ _).mono ?_
       rintro e z4 ⟨rfl, hb⟩
       have J4 := hid (J3.out.below hb)
       clear hb
       clear v0 v1 v2 u0 u1 u2 x0 x1 x2 y0 y1 y2 d0 d1 d2
       obtain ⟨v0, v1, v2, -⟩ := vfacts (J4.out.1.at (q := w3.heap.size) (k := 1) (i := 42) (s := emp) (by simp))
       obtain ⟨u0, u1, u2, -⟩ := vfacts (J4.out.1.at (q := w6.heap.size) (k := 1) (i := 38) (s := emp) (by simp))
       obtain ⟨x0, x1, x2, -⟩ := vfacts (J4.out.1.at (q := w9.heap.size) (k := 1) (i := (-8)) (s := emp) (by simp))
       obtain ⟨y0, y1, y2, -⟩ := vfacts (J4.out.1.at (q := w12.heap.size) (k := 2) (i := 0) (s := kKeel7) (by simp))
       obtain ⟨d0, d1, d2, -⟩ := vfacts (J4.out.1.at (q := w17.heap.size) (k := 1) (i := 64) (s := emp) (by simp))
       skip)
    | (go_at_call 30
       refine (bytes_any _ _ [2, 2, 97, 98] [2, 2, 97, 98] _ (sl_of_owns ((J4.out.below (below1 z4 (.cells (B8 [2, 2, 97, 98]).toArray 5))).2.owns (Nat.zero_le _) (by decide))) (sl_new z4 [2, 2, 97, 98] (by decide)) (by decide)).mono ?_
       rintro e z5 ⟨⟨nq, e5⟩, rfl⟩
       have J5 := hid ((J4.out.below (below1 z4 (.cells (B8 [2, 2, 97, 98]).toArray 5))).below (W' := z5) (by rw [e5]; exact ⟨rfl, rfl, rfl, Nat.le_refl _, fun _ _ => rfl⟩))
       clear e5
       clear v0 v1 v2 u0 u1 u2 x0 x1 x2 y0 y1 y2 d0 d1 d2
       obtain ⟨v0, v1, v2, -⟩ := vfacts (J5.out.1.at (q := w3.heap.size) (k := 1) (i := 42) (s := emp) (by simp))
       obtain ⟨u0, u1, u2, -⟩ := vfacts (J5.out.1.at (q := w6.heap.size) (k := 1) (i := 38) (s := emp) (by simp))
       obtain ⟨x0, x1, x2, -⟩ := vfacts (J5.out.1.at (q := w9.heap.size) (k := 1) (i := (-8)) (s := emp) (by simp))
       obtain ⟨y0, y1, y2, -⟩ := vfacts (J5.out.1.at (q := w12.heap.size) (k := 2) (i := 0) (s := kKeel7) (by simp))
       obtain ⟨d0, d1, d2, -⟩ := vfacts (J5.out.1.at (q := w17.heap.size) (k := 1) (i := 64) (s := emp) (by simp))
       skip)
    | (go_at_call 33
       (with_reducible show Calls _ _ _ z5 _)
       refine (number_any _ _).mono ?_
       rintro e z6 ⟨rfl, hb⟩
       have J6 := hid (J5.out.below hb)
       clear hb
       clear v0 v1 v2 u0 u1 u2 x0 x1 x2 y0 y1 y2 d0 d1 d2
       obtain ⟨v0, v1, v2, -⟩ := vfacts (J6.out.1.at (q := w3.heap.size) (k := 1) (i := 42) (s := emp) (by simp))
       obtain ⟨u0, u1, u2, -⟩ := vfacts (J6.out.1.at (q := w6.heap.size) (k := 1) (i := 38) (s := emp) (by simp))
       obtain ⟨x0, x1, x2, -⟩ := vfacts (J6.out.1.at (q := w9.heap.size) (k := 1) (i := (-8)) (s := emp) (by simp))
       obtain ⟨y0, y1, y2, -⟩ := vfacts (J6.out.1.at (q := w12.heap.size) (k := 2) (i := 0) (s := kKeel7) (by simp))
       obtain ⟨d0, d1, d2, -⟩ := vfacts (J6.out.1.at (q := w17.heap.size) (k := 1) (i := 64) (s := emp) (by simp))
       skip)
    | (go_at_call 33
       (with_reducible show Calls _ _ _ z6 _)
       refine (number_any _ _).mono ?_
       rintro e z7 ⟨rfl, hb⟩
       have J7 := hid (J6.out.below hb)
       clear hb
       clear v0 v1 v2 u0 u1 u2 x0 x1 x2 y0 y1 y2 d0 d1 d2
       obtain ⟨v0, v1, v2, -⟩ := vfacts (J7.out.1.at (q := w3.heap.size) (k := 1) (i := 42) (s := emp) (by simp))
       obtain ⟨u0, u1, u2, -⟩ := vfacts (J7.out.1.at (q := w6.heap.size) (k := 1) (i := 38) (s := emp) (by simp))
       obtain ⟨x0, x1, x2, -⟩ := vfacts (J7.out.1.at (q := w9.heap.size) (k := 1) (i := (-8)) (s := emp) (by simp))
       obtain ⟨y0, y1, y2, -⟩ := vfacts (J7.out.1.at (q := w12.heap.size) (k := 2) (i := 0) (s := kKeel7) (by simp))
       obtain ⟨d0, d1, d2, -⟩ := vfacts (J7.out.1.at (q := w17.heap.size) (k := 1) (i := 64) (s := emp) (by simp))
       skip)
    | (go_at_call 34
       (with_reducible show Calls _ _ _ z7 _)
       refine (text_any _ _).mono ?_
       rintro e z8 ⟨rfl, hb⟩
       have J8 := hid (J7.out.below hb)
       clear hb
       clear v0 v1 v2 u0 u1 u2 x0 x1 x2 y0 y1 y2 d0 d1 d2
       obtain ⟨v0, v1, v2, -⟩ := vfacts (J8.out.1.at (q := w3.heap.size) (k := 1) (i := 42) (s := emp) (by simp))
       obtain ⟨u0, u1, u2, -⟩ := vfacts (J8.out.1.at (q := w6.heap.size) (k := 1) (i := 38) (s := emp) (by simp))
       obtain ⟨x0, x1, x2, -⟩ := vfacts (J8.out.1.at (q := w9.heap.size) (k := 1) (i := (-8)) (s := emp) (by simp))
       obtain ⟨y0, y1, y2, -⟩ := vfacts (J8.out.1.at (q := w12.heap.size) (k := 2) (i := 0) (s := kKeel7) (by simp))
       obtain ⟨d0, d1, d2, -⟩ := vfacts (J8.out.1.at (q := w17.heap.size) (k := 1) (i := 64) (s := emp) (by simp))
       skip)
    | (go_at_call 12
       (with_reducible show Calls _ _ _ z8 _)
       refine (k_cmp _).mono ?_
       rintro e z9 ⟨rfl, hb⟩
       have J9 := hid (J8.out.below hb)
       clear hb
       clear v0 v1 v2 u0 u1 u2 x0 x1 x2 y0 y1 y2 d0 d1 d2
       obtain ⟨v0, v1, v2, -⟩ := vfacts (J9.out.1.at (q := w3.heap.size) (k := 1) (i := 42) (s := emp) (by simp))
       obtain ⟨u0, u1, u2, -⟩ := vfacts (J9.out.1.at (q := w6.heap.size) (k := 1) (i := 38) (s := emp) (by simp))
       obtain ⟨x0, x1, x2, -⟩ := vfacts (J9.out.1.at (q := w9.heap.size) (k := 1) (i := (-8)) (s := emp) (by simp))
       obtain ⟨y0, y1, y2, -⟩ := vfacts (J9.out.1.at (q := w12.heap.size) (k := 2) (i := 0) (s := kKeel7) (by simp))
       obtain ⟨d0, d1, d2, -⟩ := vfacts (J9.out.1.at (q := w17.heap.size) (k := 1) (i := 64) (s := emp) (by simp))
       skip)
    | (go_at_call 33
       (with_reducible show Calls _ _ _ z9 _)
       refine (number_any _ _).mono ?_
       rintro e z10 ⟨rfl, hb⟩
       have J10 := hid (J9.out.below hb)
       clear hb
       clear v0 v1 v2 u0 u1 u2 x0 x1 x2 y0 y1 y2 d0 d1 d2
       obtain ⟨v0, v1, v2, -⟩ := vfacts (J10.out.1.at (q := w3.heap.size) (k := 1) (i := 42) (s := emp) (by simp))
       obtain ⟨u0, u1, u2, -⟩ := vfacts (J10.out.1.at (q := w6.heap.size) (k := 1) (i := 38) (s := emp) (by simp))
       obtain ⟨x0, x1, x2, -⟩ := vfacts (J10.out.1.at (q := w9.heap.size) (k := 1) (i := (-8)) (s := emp) (by simp))
       obtain ⟨y0, y1, y2, -⟩ := vfacts (J10.out.1.at (q := w12.heap.size) (k := 2) (i := 0) (s := kKeel7) (by simp))
       obtain ⟨d0, d1, d2, -⟩ := vfacts (J10.out.1.at (q := w17.heap.size) (k := 1) (i := 64) (s := emp) (by simp))
       skip)
    | (go_at_call 33
       (with_reducible show Calls _ _ _ z10 _)
       refine (number_any _ _).mono ?_
       rintro e z11 ⟨rfl, hb⟩
       have J11 := hid (J10.out.below hb)
       clear hb
       clear v0 v1 v2 u0 u1 u2 x0 x1 x2 y0 y1 y2 d0 d1 d2
       obtain ⟨v0, v1, v2, -⟩ := vfacts (J11.out.1.at (q := w3.heap.size) (k := 1) (i := 42) (s := emp) (by simp))
       obtain ⟨u0, u1, u2, -⟩ := vfacts (J11.out.1.at (q := w6.heap.size) (k := 1) (i := 38) (s := emp) (by simp))
       obtain ⟨x0, x1, x2, -⟩ := vfacts (J11.out.1.at (q := w9.heap.size) (k := 1) (i := (-8)) (s := emp) (by simp))
       obtain ⟨y0, y1, y2, -⟩ := vfacts (J11.out.1.at (q := w12.heap.size) (k := 2) (i := 0) (s := kKeel7) (by simp))
       obtain ⟨d0, d1, d2, -⟩ := vfacts (J11.out.1.at (q := w17.heap.size) (k := 1) (i := 64) (s := emp) (by simp))
       skip)
    | (go_at_call 14
       (with_reducible show Calls _ _ _ z11 _)
       refine (k_holds _).mono ?_
       rintro e z12 ⟨rfl, hb⟩
       have J12 := hid (J11.out.below hb)
       clear hb
       clear v0 v1 v2 u0 u1 u2 x0 x1 x2 y0 y1 y2 d0 d1 d2
       obtain ⟨v0, v1, v2, -⟩ := vfacts (J12.out.1.at (q := w3.heap.size) (k := 1) (i := 42) (s := emp) (by simp))
       obtain ⟨u0, u1, u2, -⟩ := vfacts (J12.out.1.at (q := w6.heap.size) (k := 1) (i := 38) (s := emp) (by simp))
       obtain ⟨x0, x1, x2, -⟩ := vfacts (J12.out.1.at (q := w9.heap.size) (k := 1) (i := (-8)) (s := emp) (by simp))
       obtain ⟨y0, y1, y2, -⟩ := vfacts (J12.out.1.at (q := w12.heap.size) (k := 2) (i := 0) (s := kKeel7) (by simp))
       obtain ⟨d0, d1, d2, -⟩ := vfacts (J12.out.1.at (q := w17.heap.size) (k := 1) (i := 64) (s := emp) (by simp))
       skip)
    | (go_at_call 16
       (with_reducible show Calls _ _ #[.string emp] _ _)
       refine (k_isk0 _).mono ?_
       rintro e z13 ⟨rfl, e13⟩
       rw [e13]
       clear e13 z13)
    | (go_at_call 16
       refine (k_isk1 _).mono ?_
       rintro e z14 ⟨rfl, e14⟩
       rw [e14]
       clear e14 z14)
    | (go_at_call 10
       (with_reducible show Calls _ _ _ z12 _)
       refine (k_chk _).mono ?_
       rintro e z15 ⟨rfl, hb⟩
       have J15 := hid (J12.out.below hb)
       clear hb
       clear v0 v1 v2 u0 u1 u2 x0 x1 x2 y0 y1 y2 d0 d1 d2
       obtain ⟨v0, v1, v2, -⟩ := vfacts (J15.out.1.at (q := w3.heap.size) (k := 1) (i := 42) (s := emp) (by simp))
       obtain ⟨u0, u1, u2, -⟩ := vfacts (J15.out.1.at (q := w6.heap.size) (k := 1) (i := 38) (s := emp) (by simp))
       obtain ⟨x0, x1, x2, -⟩ := vfacts (J15.out.1.at (q := w9.heap.size) (k := 1) (i := (-8)) (s := emp) (by simp))
       obtain ⟨y0, y1, y2, -⟩ := vfacts (J15.out.1.at (q := w12.heap.size) (k := 2) (i := 0) (s := kKeel7) (by simp))
       obtain ⟨d0, d1, d2, -⟩ := vfacts (J15.out.1.at (q := w17.heap.size) (k := 1) (i := 64) (s := emp) (by simp))
       skip))
  go_wp2
  go_ret
  exact ⟨rfl, J15.out.1.1⟩

end Go.Proofs.Ytiammlngbejhkaa
