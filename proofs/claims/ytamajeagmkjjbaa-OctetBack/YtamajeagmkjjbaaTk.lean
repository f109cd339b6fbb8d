import Derived.Test.YtamajeagmkjjbaaR5
import Derived.Test.YtamajeagmkjjbaaLay
namespace Go.Proofs.Ytamajeagmkjjbaa
open Go.RowKit

/-- A Got, as a value. -/
def gotV (g : Int × Int × List Int) : Value := .agg #[.int .u64 g.1, .int .i64 g.2.1, .string (mkStr g.2.2)]

/-- What is taken for an Item. -/
def itZ (x : It) (bs : List Int) (at' : Nat) (e : Int) : (Int × Int × List Int) × Nat × Int :=
  if x.kind = 1 then (((takeZ 0 1 bs at' e).1.1, 0, []), (takeZ 0 1 bs at' e).2)
  else if x.kind = 2 then (((takeZ 0 x.n bs at' e).1.1, 0, []), (takeZ 0 x.n bs at' e).2)
  else if x.kind = 3 then ((0, (takeZ 1 0 bs at' e).1.1, []), (takeZ 1 0 bs at' e).2)
  else if x.kind = 4 then ((0, unfoldZ (takeZ 2 0 bs at' e).1.1, []), (takeZ 2 0 bs at' e).2)
  else if x.kind = 5 then ((0, 0, (takeZ 3 x.n bs at' e).1.2), (takeZ 3 x.n bs at' e).2)
  else ((0, 0, []), at', e)

theorem RdStep.ofAlloc {p : Nat} {g : Option Nat} {w w' : World} {bs : List Int} {a : Nat} {e : Int} (o : Obj) (o2 : Obj) (h : RdStep p g ((w.alloc o).alloc o2) w' bs a e) : RdStep p g w w' bs a e :=
  ⟨h.1, (((Kept.refl _ w).alloc o).alloc o2).trans h.2 (fun _ _ h => h)⟩

theorem rd_below {w w' : World} {p : Nat} {g : Option Nat} {bs : List Int} {a : Nat} {e : Int} (h : Rd w p g bs a e) (hb : Below w.heap.size w w') : Rd w' p g bs a e := by
  obtain ⟨v, h1, h2, h3, h4⟩ := h
  exact ⟨v, (hb.block p (Array.getElem?_eq_some_iff.1 h1).1).trans h1, h2, h3.below hb, h4⟩

/-- A store into a Got's cell keeps the Reader. -/
theorem rd_got {p q : Nat} {g : Option Nat} {w w1 : World} {bs : List Int} {a : Nat} {e : Int} (h : RdStep p g w w1 bs a e) (hq : w1.heap[q]? = some (.cells #[.int .u64 0, .int .i64 0, .string ⟨#[]⟩] 48 (0, 0))) (hqw : w.heap.size ≤ q) (x y z : Value) :
    RdStep p g w (((w1.setCell ⟨q, 0, none⟩ x).setCell ⟨q, 1, none⟩ y).setCell ⟨q, 2, none⟩ z) bs a e := by
  obtain ⟨⟨v, h1, h2, h3, h4, h5⟩, hk⟩ := h
  have hk1 : Kept (fun k => k = q) w1 (((w1.setCell ⟨q, 0, none⟩ x).setCell ⟨q, 1, none⟩ y).setCell ⟨q, 2, none⟩ z) :=
    ((((Kept.refl (fun k => k = q) w1).setCell (p := ⟨q, 0, none⟩) (fun _ => rfl) _).setCell (p := ⟨q, 1, none⟩) (fun _ => rfl) _).setCell (p := ⟨q, 2, none⟩) (fun _ => rfl) _)
  have hpq : p ≠ q := by
    intro e
    subst e
    rw [h1] at hq
    simp at hq
  refine ⟨⟨v, ?_, h2, ?_, h4, h5⟩, hk.trans hk1 (fun i hi e => by omega)⟩
  · rw [hk1.block p (Array.getElem?_eq_some_iff.1 h1).1 hpq]
    exact h1
  · obtain ⟨ao, cap, rfl, hc, hx⟩ := h3
    refine ⟨ao, cap, rfl, hc, fun hne => ?_⟩
    obtain ⟨b, off, rfl, hj⟩ := hx hne
    refine ⟨b, off, rfl, ?_⟩
    have hbq : b ≠ q := by
      intro e
      subst e
      have h0 := hj 0 _ (List.getElem?_eq_getElem (List.length_pos_iff.2 hne))
      rw [cell_of_row w1 b _ _ 48 (0, 0) hq] at h0
      match off + 0, h0 with
      | 0, h0 => simp at h0
      | 1, h0 => simp at h0
      | 2, h0 => simp at h0
      | k + 3, h0 => simp at h0
    intro j y hy
    rw [World.cell?_of_block (hk1.block b (World.block_lt_of_cell? _ _ (hj j y hy)) hbq)]
    exact hj j y hy

theorem new2t (w : World) (X Y : Obj) : ((w.alloc X).alloc Y).heap[w.heap.size + 1]? = some Y := by
  have := heap_alloc_new (w.alloc X) Y
  simpa using this

set_option maxRecDepth 100000 in
set_option maxHeartbeats 1600000 in
theorem tk_any (p : Nat) (g : Option Nat) (bs : List Int) (at' : Nat) (e : Int) (w : World) (x : It) (h : Rd w p g bs at' e) (hp : p < w.heap.size) (hx : x.ok) :
    Calls Try.prog 19 #[.pointer (some ⟨p, 0, none⟩), x.val] w fun y w' => y = .returned (gotV (itZ x bs at' e).1) ∧ RdStep p g w w' bs (itZ x bs at' e).2.1 (itZ x bs at' e).2.2 := by
  obtain ⟨kind, n, u, i, s⟩ := x
  obtain ⟨⟨k0, k1⟩, ⟨n0, n1⟩, ⟨u0, u1⟩, ⟨i0, i1⟩, _⟩ := hx
  dsimp only at k0 k1 n0 n1 u0 u1 i0 i1
  unfold It.val itZ
  dsimp only
  have hoct := h.oct
  have H := hid (fun X Y => rd_below h (((Below.refl _ w).alloc (Nat.le_refl _) X).alloc (by simp) Y))
  clear h
  by_cases c1 : kind = 1
  · rw [if_pos c1]
    subst c1
    obtain ⟨z, hz⟩ : ∃ z, z = takeZ 0 1 bs at' e := ⟨_, rfl⟩
    have hbd := takeZ_bd 0 1 bs at' e hoct
    rw [← hz] at hbd
    have hb0 := hbd.1
    have hb1 := hbd.2.2.2 rfl rfl
    clear hbd
    rw [← hz]
    have HZ := hid hz
    clear hz
    go_enter Try.func19, Try.ntmps19
    go_wp2_with fail
    refine (rbyte_any p g bs at' e _ (H.out _ _)).mono ?_
    rw [← HZ.out]
    rintro y w1 ⟨hst, rfl⟩
    have hq := (hst.2.block (w.heap.size + 1) (by simp) (by omega)).trans (new2t w _ _)
    have HD := hid (rd_got (RdStep.ofAlloc _ _ hst) hq (by omega) (.int .u64 (z.1.1)) (.int .i64 (0)) (.string (⟨#[]⟩)))
    obtain ⟨d0, d1, d2⟩ := cell_of_three hq
    have z0 := free_of_block (o := 0) hq
    have z1 := free_of_block (o := 1) hq
    have z2 := free_of_block (o := 2) hq
    clear hst hq
    go_wp2
    refine bodyPost_ret (v := .agg #[.int .u64 (z.1.1), .int .i64 (0), .string (⟨#[]⟩)]) (by simp [results, Try.results19, go_sem, d0, d1, d2]) rfl ?_
    exact ⟨rfl, HD.out⟩
  · rw [if_neg c1]
    by_cases c2 : kind = 2
    · rw [if_pos c2]
      subst c2
      clear c1
      obtain ⟨z, hz⟩ : ∃ z, z = takeZ 0 n bs at' e := ⟨_, rfl⟩
      rw [← hz]
      have HZ := hid hz
      clear hz
      go_enter Try.func19, Try.ntmps19
      go_wp2_with fail
      refine (rfixed_any p g bs at' e n _ (H.out _ _) n0 n1).mono ?_
      rw [← HZ.out]
      rintro y w1 ⟨hst, rfl⟩
      have hq := (hst.2.block (w.heap.size + 1) (by simp) (by omega)).trans (new2t w _ _)
      have HD := hid (rd_got (RdStep.ofAlloc _ _ hst) hq (by omega) (.int .u64 (z.1.1)) (.int .i64 (0)) (.string (⟨#[]⟩)))
      obtain ⟨d0, d1, d2⟩ := cell_of_three hq
      have z0 := free_of_block (o := 0) hq
      have z1 := free_of_block (o := 1) hq
      have z2 := free_of_block (o := 2) hq
      clear hst hq
      go_wp2
      refine bodyPost_ret (v := .agg #[.int .u64 (z.1.1), .int .i64 (0), .string (⟨#[]⟩)]) (by simp [results, Try.results19, go_sem, d0, d1, d2]) rfl ?_
      exact ⟨rfl, HD.out⟩
    · rw [if_neg c2]
      by_cases c3 : kind = 3
      · rw [if_pos c3]
        subst c3
        clear c1 c2
        obtain ⟨z, hz⟩ : ∃ z, z = takeZ 1 0 bs at' e := ⟨_, rfl⟩
        rw [← hz]
        have HZ := hid hz
        clear hz
        go_enter Try.func19, Try.ntmps19
        go_wp2_with fail
        refine (rnum_any p g bs at' e _ (H.out _ _)).mono ?_
        rw [← HZ.out]
        rintro y w1 ⟨hst, rfl⟩
        have hq := (hst.2.block (w.heap.size + 1) (by simp) (by omega)).trans (new2t w _ _)
        have HD := hid (rd_got (RdStep.ofAlloc _ _ hst) hq (by omega) (.int .u64 (0)) (.int .i64 (z.1.1)) (.string (⟨#[]⟩)))
        obtain ⟨d0, d1, d2⟩ := cell_of_three hq
        have z0 := free_of_block (o := 0) hq
        have z1 := free_of_block (o := 1) hq
        have z2 := free_of_block (o := 2) hq
        clear hst hq
        go_wp2
        refine bodyPost_ret (v := .agg #[.int .u64 (0), .int .i64 (z.1.1), .string (⟨#[]⟩)]) (by simp [results, Try.results19, go_sem, d0, d1, d2]) rfl ?_
        exact ⟨rfl, HD.out⟩
      · rw [if_neg c3]
        by_cases c4 : kind = 4
        · rw [if_pos c4]
          subst c4
          clear c1 c2 c3
          obtain ⟨z, hz⟩ : ∃ z, z = takeZ 2 0 bs at' e := ⟨_, rfl⟩
          rw [← hz]
          have HZ := hid hz
          clear hz
          go_enter Try.func19, Try.ntmps19
          go_wp2_with fail
          refine (rint_any p g bs at' e _ (H.out _ _)).mono ?_
          rw [← HZ.out]
          rintro y w1 ⟨hst, rfl⟩
          have hq := (hst.2.block (w.heap.size + 1) (by simp) (by omega)).trans (new2t w _ _)
          have HD := hid (rd_got (RdStep.ofAlloc _ _ hst) hq (by omega) (.int .u64 (0)) (.int .i64 (unfoldZ z.1.1)) (.string (⟨#[]⟩)))
          obtain ⟨d0, d1, d2⟩ := cell_of_three hq
          have z0 := free_of_block (o := 0) hq
          have z1 := free_of_block (o := 1) hq
          have z2 := free_of_block (o := 2) hq
          clear hst hq
          go_wp2
          refine bodyPost_ret (v := .agg #[.int .u64 (0), .int .i64 (unfoldZ z.1.1), .string (⟨#[]⟩)]) (by simp [results, Try.results19, go_sem, d0, d1, d2]) rfl ?_
          exact ⟨rfl, HD.out⟩
        · rw [if_neg c4]
          by_cases c5 : kind = 5
          · rw [if_pos c5]
            subst c5
            clear c1 c2 c3 c4
            obtain ⟨z, hz⟩ : ∃ z, z = takeZ 3 n bs at' e := ⟨_, rfl⟩
            rw [← hz]
            have HZ := hid hz
            clear hz
            go_enter Try.func19, Try.ntmps19
            go_wp2_with fail
            refine (rtext_any p g bs at' e n _ (H.out _ _) n0 n1).mono ?_
            rw [← HZ.out]
            rintro y w1 ⟨hst, rfl⟩
            have hq := (hst.2.block (w.heap.size + 1) (by simp) (by omega)).trans (new2t w _ _)
            have HD := hid (rd_got (RdStep.ofAlloc _ _ hst) hq (by omega) (.int .u64 (0)) (.int .i64 (0)) (.string (mkStr z.1.2)))
            obtain ⟨d0, d1, d2⟩ := cell_of_three hq
            have z0 := free_of_block (o := 0) hq
            have z1 := free_of_block (o := 1) hq
            have z2 := free_of_block (o := 2) hq
            clear hst hq
            go_wp2
            refine bodyPost_ret (v := .agg #[.int .u64 (0), .int .i64 (0), .string (mkStr z.1.2)]) (by simp [results, Try.results19, go_sem, d0, d1, d2]) rfl ?_
            exact ⟨rfl, HD.out⟩
          · rw [if_neg c5]
            have d1 : (kind == 1) = false := by simpa using c1
            have d2 : (kind == 2) = false := by simpa using c2
            have d3 : (kind == 3) = false := by simpa using c3
            have d4 : (kind == 4) = false := by simpa using c4
            have d5 : (kind == 5) = false := by simpa using c5
            clear c1 c2 c3 c4 c5
            have H2 := hid (fun X Y => RdStep.ofAlloc X Y ⟨H.out X Y, Kept.refl _ _⟩)
            clear H
            go_enter Try.func19, Try.ntmps19
            go_wp2
            refine bodyPost_ret (v := .agg #[.int .u64 0, .int .i64 0, .string ⟨#[]⟩]) (by simp [results, Try.results19, go_sem]) rfl ?_
            exact ⟨rfl, H2.out _ _⟩

end Go.Proofs.Ytamajeagmkjjbaa
