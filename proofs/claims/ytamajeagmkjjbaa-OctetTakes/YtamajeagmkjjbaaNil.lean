import Derived.Test.YtamajeagmkjjbaaTaken4
import Derived.Test.YtamajeagmkjjbaaTells
namespace Go.Proofs.Ytamajeagmkjjbaa
open Go.RowKit

set_option maxRecDepth 100000 in
set_option maxHeartbeats 400000 in
theorem wfixed_nil (v n : Int) (w : World) : Calls Try.prog 30 #[.pointer none, .int .u64 v, .int .i64 n] w fun x w' => x = .returned (.tuple #[]) ∧ w' = w := by
  go_enter Try.func30, Try.ntmps30
  go_wp2_with (go_at_call 50; refine (open_nil _).mono ?_; rintro e w' ⟨rfl, hww⟩; subst hww)
  refine bodyPost_ret (results_none Try.results30 _ _ _) rfl ?_
  exact ⟨rfl, rfl⟩

set_option maxRecDepth 100000 in
set_option maxHeartbeats 400000 in
theorem wnum_nil (v : Int) (w : World) : Calls Try.prog 27 #[.pointer none, .int .i64 v] w fun x w' => x = .returned (.tuple #[]) ∧ w' = w := by
  go_enter Try.func27, Try.ntmps27
  go_wp2_with (go_at_call 50; refine (open_nil _).mono ?_; rintro e w' ⟨rfl, hww⟩; subst hww)
  refine bodyPost_ret (results_none Try.results27 _ _ _) rfl ?_
  exact ⟨rfl, rfl⟩

set_option maxRecDepth 100000 in
set_option maxHeartbeats 400000 in
theorem wint_nil (v : Int) (w : World) : Calls Try.prog 28 #[.pointer none, .int .i64 v] w fun x w' => x = .returned (.tuple #[]) ∧ w' = w := by
  go_enter Try.func28, Try.ntmps28
  go_wp2_with (go_at_call 50; refine (open_nil _).mono ?_; rintro e w' ⟨rfl, hww⟩; subst hww)
  refine bodyPost_ret (results_none Try.results28 _ _ _) rfl ?_
  exact ⟨rfl, rfl⟩

set_option maxRecDepth 100000 in
set_option maxHeartbeats 400000 in
theorem wtext_nil (s : ByteArray) (w : World) : Calls Try.prog 29 #[.pointer none, .string s] w fun x w' => x = .returned (.tuple #[]) ∧ w' = w := by
  go_enter Try.func29, Try.ntmps29
  go_wp2_with (go_at_call 50; refine (open_nil _).mono ?_; rintro e w' ⟨rfl, hww⟩; subst hww)
  refine bodyPost_ret (results_none Try.results29 _ _ _) rfl ?_
  exact ⟨rfl, rfl⟩

set_option maxRecDepth 100000 in
set_option maxHeartbeats 400000 in
theorem wbyte_nil (v : Int) (w : World) (h0 : 0 ≤ v) (h1 : v < 256) : Calls Try.prog 31 #[.pointer none, .int .u8 v] w fun x w' => x = .returned (.tuple #[]) ∧ w' = w := by
  go_enter Try.func31, Try.ntmps31
  go_wp2_with (go_at_call 30; refine (wfixed_nil _ _ _).mono ?_; rintro e w' ⟨rfl, hww⟩; subst hww)
  go_end0
  exact ⟨rfl, rfl⟩

set_option maxRecDepth 100000 in
set_option maxHeartbeats 400000 in
theorem rbyte_nil (w : World) : Calls Try.prog 36 #[.pointer none] w fun x w' => x = .returned (.int .u8 0) ∧ w' = w := by
  go_enter Try.func36, Try.ntmps36
  go_wp2_with (go_at_call 53; refine (take_nil 0 1 _).mono ?_; rintro e w' ⟨hww, rfl⟩; subst hww)
  go_ret
  exact ⟨rfl, rfl⟩

set_option maxRecDepth 100000 in
set_option maxHeartbeats 400000 in
theorem rfixed_nil (n : Int) (w : World) : Calls Try.prog 35 #[.pointer none, .int .i64 n] w fun x w' => x = .returned (.int .u64 0) ∧ w' = w := by
  go_enter Try.func35, Try.ntmps35
  go_wp2_with (go_at_call 53; refine (take_nil 0 n _).mono ?_; rintro e w' ⟨hww, rfl⟩; subst hww)
  go_ret
  exact ⟨rfl, rfl⟩

set_option maxRecDepth 100000 in
set_option maxHeartbeats 400000 in
theorem rnum_nil (w : World) : Calls Try.prog 32 #[.pointer none] w fun x w' => x = .returned (.int .i64 0) ∧ w' = w := by
  go_enter Try.func32, Try.ntmps32
  go_wp2_with (go_at_call 53; refine (take_nil 1 0 _).mono ?_; rintro e w' ⟨hww, rfl⟩; subst hww)
  go_ret
  exact ⟨rfl, rfl⟩

set_option maxRecDepth 100000 in
set_option maxHeartbeats 400000 in
theorem rtext_nil (n : Int) (w : World) : Calls Try.prog 34 #[.pointer none, .int .i64 n] w fun x w' => x = .returned (.string ⟨#[]⟩) ∧ w' = w := by
  go_enter Try.func34, Try.ntmps34
  go_wp2_with (go_at_call 53; refine (take_nil 3 n _).mono ?_; rintro e w' ⟨hww, rfl⟩; subst hww)
  go_ret
  exact ⟨rfl, rfl⟩

set_option maxRecDepth 100000 in
set_option maxHeartbeats 400000 in
theorem rint_nil (w : World) : Calls Try.prog 33 #[.pointer none] w fun x w' => x = .returned (.int .i64 0) ∧ w' = w := by
  go_enter Try.func33, Try.ntmps33
  go_wp2_with (first | (go_at_call 53; refine (take_nil 2 0 _).mono ?_; rintro e w' ⟨hww, rfl⟩; subst hww) | (go_at_call 54; refine (unfold_any 0 _ (by omega) (by omega)).mono ?_; rintro x w2 ⟨rfl, hw2⟩; subst hw2))
  go_ret
  exact ⟨by rfl, rfl⟩

set_option maxHeartbeats 400000 in
theorem left_nil (w : World) : Calls Try.prog 26 #[.pointer none] w fun x w' => x = .returned (.int .i64 0) ∧ w' = w := by
  go_enter Try.func26, Try.ntmps26
  go_wp2
  go_ret
  exact ⟨rfl, rfl⟩

set_option maxHeartbeats 400000 in
theorem rerr_nil (w : World) : Calls Try.prog 25 #[.pointer none] w fun x w' => x = .returned (.tuple #[.int .i64 1, .int .i64 0]) ∧ w' = w := by
  go_enter Try.func25, Try.ntmps25
  go_wp2
  go_ret2
  exact ⟨rfl, rfl⟩

set_option maxHeartbeats 400000 in
theorem end_nil (w : World) : Calls Try.prog 21 #[.pointer none] w fun x w' => x = .returned (.int .i64 1) ∧ w' = w := by
  go_enter Try.func21, Try.ntmps21
  go_wp2_with (go_at_call 25; refine (rerr_nil _).mono ?_; rintro e w' ⟨rfl, hww⟩; subst hww)
  go_ret
  exact ⟨rfl, rfl⟩

set_option maxRecDepth 100000 in
set_option maxHeartbeats 1600000 in
theorem lay_nil (x : It) (w : World) (hx : x.ok) : Calls Try.prog 11 #[.pointer none, x.val] w fun y w' => y = .returned (.tuple #[]) ∧ Below w.heap.size w w' := by
  obtain ⟨kind, n, u, i, s⟩ := x
  obtain ⟨⟨k0, k1⟩, ⟨n0, n1⟩, ⟨u0, u1⟩, ⟨i0, i1⟩, _⟩ := hx
  dsimp only at k0 k1 n0 n1 u0 u1 i0 i1
  unfold It.val
  dsimp only
  have HB := hid (fun X => (Below.refl w.heap.size w).alloc (Nat.le_refl _) X)
  by_cases c1 : kind = 1
  · subst c1
    have hm : IntKind.u8.wrap u = u % 256 := by rw [IntKind.wrap_u8]
    go_enter Try.func11, Try.ntmps11
    go_wp2_with fail
    refine (wbyte_nil (u % 256) _ (by omega) (by omega)).mono ?_
    rintro y w' ⟨rfl, hww⟩
    subst hww
    go_wp2
    go_end0
    exact ⟨rfl, HB.out _⟩
  · skip
    by_cases c2 : kind = 2
    · subst c2
      go_enter Try.func11, Try.ntmps11
      go_wp2_with fail
      refine (wfixed_nil _ _ _).mono ?_
      rintro y w' ⟨rfl, hww⟩
      subst hww
      go_wp2
      go_end0
      exact ⟨rfl, HB.out _⟩
    · skip
      by_cases c3 : kind = 3
      · subst c3
        go_enter Try.func11, Try.ntmps11
        go_wp2_with fail
        refine (wnum_nil _ _).mono ?_
        rintro y w' ⟨rfl, hww⟩
        subst hww
        go_wp2
        go_end0
        exact ⟨rfl, HB.out _⟩
      · skip
        by_cases c4 : kind = 4
        · subst c4
          go_enter Try.func11, Try.ntmps11
          go_wp2_with fail
          refine (wint_nil _ _).mono ?_
          rintro y w' ⟨rfl, hww⟩
          subst hww
          go_wp2
          go_end0
          exact ⟨rfl, HB.out _⟩
        · skip
          by_cases c5 : kind = 5
          · subst c5
            go_enter Try.func11, Try.ntmps11
            go_wp2_with fail
            refine (wtext_nil _ _).mono ?_
            rintro y w' ⟨rfl, hww⟩
            subst hww
            go_wp2
            go_end0
            exact ⟨rfl, HB.out _⟩
          · skip
            have d1 : (kind == 1) = false := by simpa using c1
            have d2 : (kind == 2) = false := by simpa using c2
            have d3 : (kind == 3) = false := by simpa using c3
            have d4 : (kind == 4) = false := by simpa using c4
            have d5 : (kind == 5) = false := by simpa using c5
            clear c1 c2 c3 c4 c5
            go_enter Try.func11, Try.ntmps11
            go_wp2
            go_end0
            exact ⟨rfl, HB.out _⟩

set_option maxRecDepth 100000 in
set_option maxHeartbeats 1600000 in
theorem tk_nil (x : It) (w : World) (hx : x.ok) : Calls Try.prog 19 #[.pointer none, x.val] w fun y w' => y = .returned (gotV (0, 0, [])) ∧ Below w.heap.size w w' := by
  obtain ⟨kind, n, u, i, s⟩ := x
  obtain ⟨⟨k0, k1⟩, ⟨n0, n1⟩, ⟨u0, u1⟩, ⟨i0, i1⟩, _⟩ := hx
  dsimp only at k0 k1 n0 n1 u0 u1 i0 i1
  unfold It.val
  dsimp only
  have HB := hid (fun X Y => below2 w X Y)
  by_cases c1 : kind = 1
  · subst c1
    go_enter Try.func19, Try.ntmps19
    go_wp2_with fail
    refine (rbyte_nil _).mono ?_
    rintro y w' ⟨rfl, hww⟩
    subst hww
    go_wp2
    refine bodyPost_ret (v := .agg #[.int .u64 0, .int .i64 0, .string ⟨#[]⟩]) (by simp [results, Try.results19, go_sem]) rfl ?_
    exact ⟨rfl, HB.out _ _⟩
  · skip
    by_cases c2 : kind = 2
    · subst c2
      go_enter Try.func19, Try.ntmps19
      go_wp2_with fail
      refine (rfixed_nil _ _).mono ?_
      rintro y w' ⟨rfl, hww⟩
      subst hww
      go_wp2
      refine bodyPost_ret (v := .agg #[.int .u64 0, .int .i64 0, .string ⟨#[]⟩]) (by simp [results, Try.results19, go_sem]) rfl ?_
      exact ⟨rfl, HB.out _ _⟩
    · skip
      by_cases c3 : kind = 3
      · subst c3
        go_enter Try.func19, Try.ntmps19
        go_wp2_with fail
        refine (rnum_nil _).mono ?_
        rintro y w' ⟨rfl, hww⟩
        subst hww
        go_wp2
        refine bodyPost_ret (v := .agg #[.int .u64 0, .int .i64 0, .string ⟨#[]⟩]) (by simp [results, Try.results19, go_sem]) rfl ?_
        exact ⟨rfl, HB.out _ _⟩
      · skip
        by_cases c4 : kind = 4
        · subst c4
          go_enter Try.func19, Try.ntmps19
          go_wp2_with fail
          refine (rint_nil _).mono ?_
          rintro y w' ⟨rfl, hww⟩
          subst hww
          go_wp2
          refine bodyPost_ret (v := .agg #[.int .u64 0, .int .i64 0, .string ⟨#[]⟩]) (by simp [results, Try.results19, go_sem]) rfl ?_
          exact ⟨rfl, HB.out _ _⟩
        · skip
          by_cases c5 : kind = 5
          · subst c5
            go_enter Try.func19, Try.ntmps19
            go_wp2_with fail
            refine (rtext_nil _ _).mono ?_
            rintro y w' ⟨rfl, hww⟩
            subst hww
            go_wp2
            refine bodyPost_ret (v := .agg #[.int .u64 0, .int .i64 0, .string ⟨#[]⟩]) (by simp [results, Try.results19, go_sem]) rfl ?_
            exact ⟨rfl, HB.out _ _⟩
          · skip
            have d1 : (kind == 1) = false := by simpa using c1
            have d2 : (kind == 2) = false := by simpa using c2
            have d3 : (kind == 3) = false := by simpa using c3
            have d4 : (kind == 4) = false := by simpa using c4
            have d5 : (kind == 5) = false := by simpa using c5
            clear c1 c2 c3 c4 c5
            go_enter Try.func19, Try.ntmps19
            go_wp2
            refine bodyPost_ret (v := .agg #[.int .u64 0, .int .i64 0, .string ⟨#[]⟩]) (by simp [results, Try.results19, go_sem]) rfl ?_
            exact ⟨rfl, HB.out _ _⟩

end Go.Proofs.Ytamajeagmkjjbaa
