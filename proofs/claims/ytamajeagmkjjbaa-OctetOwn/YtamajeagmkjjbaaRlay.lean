import Derived.Test.YtamajeagmkjjbaaRef6
import Derived.Test.YtamajeagmkjjbaaLay
namespace Go.Proofs.Ytamajeagmkjjbaa
open Go.RowKit

/-- What the law's 'laid' answers. -/
def rlayZ (s : List Int × Int) (x : It) : List Int × Int :=
  if x.kind = 1 then laidZ s [x.u % 256] else if x.kind = 2 then rfixZ s x.u x.n else if x.kind = 3 then rnumZ s x.n else if x.kind = 4 then rintZ s x.i else if x.kind = 5 then rtextZ s (strBs x.s) else s

theorem fixF_eq (n : Nat) (v : Int) : fixF n v = fixedB n v := by
  induction n with
  | zero => rfl
  | succ n ih => rw [fixF_snoc, fixedB_succ, ih]

/-- The program lays what the document lays. -/
theorem lay_eq (s : List Int × Int) (x : It) : layZ s x = rlayZ s x := by
  obtain ⟨bs, e⟩ := s
  unfold layZ rlayZ
  split
  · unfold wfixZ laidZ
    rw [if_neg (show ¬ ((1 : Int) < 0 ∨ 8 < (1 : Int)) by omega)]
    have e1 : fixedB (1 : Int).toNat (x.u % 256) = [x.u % 256] := by
      show fixedB 1 (x.u % 256) = _
      simp [fixedB]
    rw [e1]
  · split
    · unfold wfixZ rfixZ stopZ laidZ
      rw [fixF_eq]
      split <;> split <;> rfl
    · split
      · unfold wnumZ rnumZ stopZ laidZ
        split <;> split <;> rfl
      · split
        · unfold wintZ rintZ laidZ
          rfl
        · split
          · unfold wtextZ rtextZ rnumZ
            rw [if_neg (show ¬ ((strBs x.s).length : Int) < 0 by omega)]
            unfold laidZ
            by_cases he : e = 0
            · subst he
              simp
            · simp [he]
          · rfl

theorem new3 (w : World) (X Y Z : Obj) : (((w.alloc X).alloc Y).alloc Z).heap[w.heap.size + 2]? = some Z := by
  have := heap_alloc_new ((w.alloc X).alloc Y) Z
  simpa using this
theorem below3 (w : World) (X Y Z : Obj) : Below w.heap.size w (((w.alloc X).alloc Y).alloc Z) :=
  (((Below.refl _ _).alloc (Nat.le_refl _) _).alloc (by simp) _).alloc (by rw [World.size_alloc, World.size_alloc]; omega) _

set_option maxRecDepth 100000 in
set_option maxHeartbeats 1600000 in
theorem rlay_any (v : Value) (s : List Int × Int) (x : It) (w : World) (h : Sn w v s.1) (hx : x.ok) (hs : x.s.size ≤ 1000000000) (hl : s.1.length ≤ 1000000000) :
    Calls Try.prog 12 #[.agg #[v, .int .i64 s.2], x.val] w fun y w' => RWPost w v (rlayZ s x).1 (rlayZ s x).2 y w' := by
  obtain ⟨ao, c, rfl⟩ := h.form
  obtain ⟨bs, e⟩ := s
  obtain ⟨kind, n, u, i, s⟩ := x
  obtain ⟨⟨k0, k1⟩, ⟨n0, n1⟩, ⟨u0, u1⟩, ⟨i0, i1⟩, _⟩ := hx
  dsimp only at k0 k1 n0 n1 u0 u1 i0 i1 hs hl
  unfold It.val rlayZ
  dsimp only
  have H := hid h
  clear h
  by_cases q1 : kind = 1
  · rw [if_pos q1]
    subst q1
    have hm : IntKind.u8.wrap u = u % 256 := by rw [IntKind.wrap_u8]
    obtain ⟨R, hR⟩ : ∃ R, R = laidZ (bs, e) [u % 256] := ⟨_, rfl⟩
    rw [← hR]
    have HR := hid hR
    clear hR
    go_enter Try.func12, Try.ntmps12
    go_wp2_with fail
    refine (rbyteW_any _ (bs, e) (u % 256) _ (((H.out.alloc _).alloc _).alloc _) hl).mono ?_
    rw [← HR.out]
    rintro x w1 ⟨v1, rfl, hs1, hb1, hf1⟩
    obtain ⟨ao1, c1, rfl⟩ := hs1.form
    have hq : w1.heap[w.heap.size + 2]? = some (.cells #[.slice none 0 0, .int .i64 0] 31 (0, 0)) := (hb1.block _ (by simp)).trans (new3 w _ _ _)
    have HF := hid (rw_finish (e := R.2) hq hs1 ((below3 w _ _ _).trans (hb1.mono (by simp; omega))) (by omega) (fresh_mono hf1 (by first | omega | (simp; omega) | (simp at hz1; omega)) (Nat.le_refl _)))
    obtain ⟨d2, d3⟩ := cell_of_pair hq
    have z1 := free_of_block (o := 0) hq
    have z2 := free_of_block (o := 1) hq
    clear hq hs1 hb1 hf1 H HR
    go_wp2
    refine bodyPost_ret (v := .agg #[.slice ao1 R.1.length c1, .int .i64 R.2]) (by simp [results, Try.results12, go_sem, d2, d3]) rfl ?_
    exact HF.out
  · rw [if_neg q1]
    by_cases q2 : kind = 2
    · rw [if_pos q2]
      subst q2
      clear q1
      obtain ⟨R, hR⟩ : ∃ R, R = rfixZ (bs, e) u n := ⟨_, rfl⟩
      rw [← hR]
      have HR := hid hR
      clear hR
      go_enter Try.func12, Try.ntmps12
      go_wp2_with fail
      refine (rfixW_any _ (bs, e) u n _ (((H.out.alloc _).alloc _).alloc _) (by dsimp only; omega) u0 u1).mono ?_
      rw [← HR.out]
      rintro x w1 ⟨v1, rfl, hs1, hb1, hf1⟩
      obtain ⟨ao1, c1, rfl⟩ := hs1.form
      have hq : w1.heap[w.heap.size + 2]? = some (.cells #[.slice none 0 0, .int .i64 0] 31 (0, 0)) := (hb1.block _ (by simp)).trans (new3 w _ _ _)
      have HF := hid (rw_finish (e := R.2) hq hs1 ((below3 w _ _ _).trans (hb1.mono (by simp; omega))) (by omega) (fresh_mono hf1 (by first | omega | (simp; omega) | (simp at hz1; omega)) (Nat.le_refl _)))
      obtain ⟨d2, d3⟩ := cell_of_pair hq
      have z1 := free_of_block (o := 0) hq
      have z2 := free_of_block (o := 1) hq
      clear hq hs1 hb1 hf1 H HR
      go_wp2
      refine bodyPost_ret (v := .agg #[.slice ao1 R.1.length c1, .int .i64 R.2]) (by simp [results, Try.results12, go_sem, d2, d3]) rfl ?_
      exact HF.out
    · rw [if_neg q2]
      by_cases q3 : kind = 3
      · rw [if_pos q3]
        subst q3
        clear q1 q2
        obtain ⟨R, hR⟩ : ∃ R, R = rnumZ (bs, e) n := ⟨_, rfl⟩
        rw [← hR]
        have HR := hid hR
        clear hR
        go_enter Try.func12, Try.ntmps12
        go_wp2_with fail
        refine (rnumW_any _ (bs, e) n _ (((H.out.alloc _).alloc _).alloc _) (by dsimp only; omega) n1).mono ?_
        rw [← HR.out]
        rintro x w1 ⟨v1, rfl, hs1, hb1, hf1⟩
        obtain ⟨ao1, c1, rfl⟩ := hs1.form
        have hq : w1.heap[w.heap.size + 2]? = some (.cells #[.slice none 0 0, .int .i64 0] 31 (0, 0)) := (hb1.block _ (by simp)).trans (new3 w _ _ _)
        have HF := hid (rw_finish (e := R.2) hq hs1 ((below3 w _ _ _).trans (hb1.mono (by simp; omega))) (by omega) (fresh_mono hf1 (by first | omega | (simp; omega) | (simp at hz1; omega)) (Nat.le_refl _)))
        obtain ⟨d2, d3⟩ := cell_of_pair hq
        have z1 := free_of_block (o := 0) hq
        have z2 := free_of_block (o := 1) hq
        clear hq hs1 hb1 hf1 H HR
        go_wp2
        refine bodyPost_ret (v := .agg #[.slice ao1 R.1.length c1, .int .i64 R.2]) (by simp [results, Try.results12, go_sem, d2, d3]) rfl ?_
        exact HF.out
      · rw [if_neg q3]
        by_cases q4 : kind = 4
        · rw [if_pos q4]
          subst q4
          clear q1 q2 q3
          obtain ⟨R, hR⟩ : ∃ R, R = rintZ (bs, e) i := ⟨_, rfl⟩
          rw [← hR]
          have HR := hid hR
          clear hR
          go_enter Try.func12, Try.ntmps12
          go_wp2_with fail
          refine (rintW_any _ (bs, e) i _ (((H.out.alloc _).alloc _).alloc _) (by dsimp only; omega) i0 i1).mono ?_
          rw [← HR.out]
          rintro x w1 ⟨v1, rfl, hs1, hb1, hf1⟩
          obtain ⟨ao1, c1, rfl⟩ := hs1.form
          have hq : w1.heap[w.heap.size + 2]? = some (.cells #[.slice none 0 0, .int .i64 0] 31 (0, 0)) := (hb1.block _ (by simp)).trans (new3 w _ _ _)
          have HF := hid (rw_finish (e := R.2) hq hs1 ((below3 w _ _ _).trans (hb1.mono (by simp; omega))) (by omega) (fresh_mono hf1 (by first | omega | (simp; omega) | (simp at hz1; omega)) (Nat.le_refl _)))
          obtain ⟨d2, d3⟩ := cell_of_pair hq
          have z1 := free_of_block (o := 0) hq
          have z2 := free_of_block (o := 1) hq
          clear hq hs1 hb1 hf1 H HR
          go_wp2
          refine bodyPost_ret (v := .agg #[.slice ao1 R.1.length c1, .int .i64 R.2]) (by simp [results, Try.results12, go_sem, d2, d3]) rfl ?_
          exact HF.out
        · rw [if_neg q4]
          by_cases q5 : kind = 5
          · rw [if_pos q5]
            subst q5
            clear q1 q2 q3 q4
            obtain ⟨R, hR⟩ : ∃ R, R = rtextZ (bs, e) (strBs s) := ⟨_, rfl⟩
            rw [← hR]
            have HR := hid hR
            clear hR
            go_enter Try.func12, Try.ntmps12
            go_wp2_with fail
            refine (rtextW_any _ (bs, e) s _ (((H.out.alloc _).alloc _).alloc _) hl hs).mono ?_
            rw [← HR.out]
            rintro x w1 ⟨v1, rfl, hs1, hb1, hf1⟩
            obtain ⟨ao1, c1, rfl⟩ := hs1.form
            have hq : w1.heap[w.heap.size + 2]? = some (.cells #[.slice none 0 0, .int .i64 0] 31 (0, 0)) := (hb1.block _ (by simp)).trans (new3 w _ _ _)
            have HF := hid (rw_finish (e := R.2) hq hs1 ((below3 w _ _ _).trans (hb1.mono (by simp; omega))) (by omega) (fresh_mono hf1 (by first | omega | (simp; omega) | (simp at hz1; omega)) (Nat.le_refl _)))
            obtain ⟨d2, d3⟩ := cell_of_pair hq
            have z1 := free_of_block (o := 0) hq
            have z2 := free_of_block (o := 1) hq
            clear hq hs1 hb1 hf1 H HR
            go_wp2
            refine bodyPost_ret (v := .agg #[.slice ao1 R.1.length c1, .int .i64 R.2]) (by simp [results, Try.results12, go_sem, d2, d3]) rfl ?_
            exact HF.out
          · rw [if_neg q5]
            have d1 : (kind == 1) = false := by simpa using q1
            have d2 : (kind == 2) = false := by simpa using q2
            have d3 : (kind == 3) = false := by simpa using q3
            have d4 : (kind == 4) = false := by simpa using q4
            have d5 : (kind == 5) = false := by simpa using q5
            clear q1 q2 q3 q4 q5
            go_enter Try.func12, Try.ntmps12
            go_wp2
            refine bodyPost_ret (v := .agg #[.slice ao bs.length c, .int .i64 e]) (by simp [results, Try.results12, go_sem]) rfl ?_
            exact ⟨_, rfl, ((H.out.alloc _).alloc _).alloc _, below3 w _ _ _, .inl rfl⟩

end Go.Proofs.Ytamajeagmkjjbaa
