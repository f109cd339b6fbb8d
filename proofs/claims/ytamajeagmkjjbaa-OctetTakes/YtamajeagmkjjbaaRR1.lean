import Derived.Test.YtamajeagmkjjbaaR5
namespace Go.Proofs.Ytamajeagmkjjbaa
open Go.RowKit

/-- A Reader of the document, as a value. -/
def rrV (v : Value) (at' e st : Int) : Value := .agg #[v, .int .i64 at', .int .i64 e, .int .i64 st]

set_option maxRecDepth 100000 in
set_option maxHeartbeats 800000 in
theorem rends_any (ao : Option Addr) (n c : Nat) (at' e st e2 : Int) (w : World) :
    Calls Try.prog 58 #[.agg #[.slice ao n c, .int .i64 at', .int .i64 e, .int .i64 st], .int .i64 e2] w fun x w' => x = .returned (.agg #[.slice ao n c, .int .i64 at', .int .i64 e2, .int .i64 at']) ∧ Below w.heap.size w w' := by
  go_enter Try.func58, Try.ntmps58
  go_wp2
  refine bodyPost_ret (v := .agg #[.slice ao n c, .int .i64 at', .int .i64 e2, .int .i64 at']) (by simp [results, Try.results58, go_sem]) rfl ?_
  exact ⟨rfl, ((Below.refl _ _).alloc (Nat.le_refl _) _).alloc (by simp) _⟩

set_option maxRecDepth 100000 in
set_option maxHeartbeats 800000 in
theorem rread_any (ao : Option Addr) (n c : Nat) (w : World) :
    Calls Try.prog 17 #[.slice ao n c] w fun x w' => x = .returned (.agg #[.slice ao n c, .int .i64 0, .int .i64 0, .int .i64 0]) ∧ Below w.heap.size w w' := by
  go_enter Try.func17, Try.ntmps17
  go_wp2
  refine bodyPost_ret (v := .agg #[.slice ao n c, .int .i64 0, .int .i64 0, .int .i64 0]) (by simp [results, Try.results17, go_sem]) rfl ?_
  exact ⟨rfl, (Below.refl _ _).alloc (Nat.le_refl _) _⟩

set_option maxRecDepth 100000 in
set_option maxHeartbeats 800000 in
theorem rleft_any (ao : Option Addr) (n c at' : Nat) (e st : Int) (w : World) (hn : n ≤ 1000000000) (ha : at' ≤ n) :
    Calls Try.prog 43 #[.agg #[.slice ao n c, .int .i64 at', .int .i64 e, .int .i64 st]] w fun x w' => x = .returned (.int .i64 ((n : Int) - at')) ∧ Below w.heap.size w w' := by
  go_enter Try.func43, Try.ntmps43
  go_wp2
  go_ret
  exact ⟨rfl, (Below.refl _ _).alloc (Nat.le_refl _) _⟩

set_option maxRecDepth 100000 in
set_option maxHeartbeats 800000 in
theorem rend_any (ao : Option Addr) (n c at' : Nat) (e st : Int) (w : World) (_hn : n ≤ 1000000000) (_ha : at' ≤ n) :
    Calls Try.prog 44 #[.agg #[.slice ao n c, .int .i64 at', .int .i64 e, .int .i64 st]] w fun x w' => x = .returned (.int .i64 (endZ n at' e)) ∧ Below w.heap.size w w' := by
  unfold endZ
  by_cases he : e = 0
  · subst he
    rw [if_pos rfl]
    by_cases hl : at' < n
    · rw [if_pos hl]
      go_enter Try.func44, Try.ntmps44
      go_wp2
      go_ret
      exact ⟨rfl, (Below.refl _ _).alloc (Nat.le_refl _) _⟩
    · rw [if_neg hl]
      go_enter Try.func44, Try.ntmps44
      go_wp2
      go_ret
      exact ⟨rfl, (Below.refl _ _).alloc (Nat.le_refl _) _⟩
  · rw [if_neg he]
    have he2 : (e == 0) = false := by simpa using he
    go_enter Try.func44, Try.ntmps44
    go_wp2
    go_ret
    exact ⟨rfl, (Below.refl _ _).alloc (Nat.le_refl _) _⟩

/-- What a taking call of the document leaves: the answer 'res', and the Reader. -/
def RRPost (w : World) (v : Value) (z : (Int × List Int) × Nat × Int) (res : Value) (x : Ending) (w' : World) : Prop :=
  ∃ st2 : Int, x = .returned (.tuple #[res, .agg #[v, .int .i64 z.2.1, .int .i64 z.2.2, .int .i64 st2]]) ∧ (z.2.2 ≠ 0 → st2 = z.2.1) ∧ Below w.heap.size w w'

theorem cell_of_four {w : World} {p : Nat} {a b c d : Value} {t : TypeId} (h : w.heap[p]? = some (.cells #[a, b, c, d] t (0, 0))) : w.cell? ⟨p, 0, none⟩ = some a ∧ w.cell? ⟨p, 1, none⟩ = some b ∧ w.cell? ⟨p, 2, none⟩ = some c ∧ w.cell? ⟨p, 3, none⟩ = some d := by
  refine ⟨?_, ?_, ?_, ?_⟩
  · rw [cell_of_row w p 0 _ t (0, 0) h]; rfl
  · rw [cell_of_row w p 1 _ t (0, 0) h]; rfl
  · rw [cell_of_row w p 2 _ t (0, 0) h]; rfl
  · rw [cell_of_row w p 3 _ t (0, 0) h]; rfl

theorem new2r (w : World) (X Y : Obj) : ((w.alloc X).alloc Y).heap[w.heap.size + 1]? = some Y ∧ ((w.alloc X).alloc Y).heap[w.heap.size]? = some X := by
  constructor
  · have := heap_alloc_new (w.alloc X) Y
    simpa using this
  · rw [Below.heap_alloc _ _ _ (by simp)]
    exact heap_alloc_new w X

theorem takeZ_stop (f n : Int) (bs : List Int) (at' : Nat) (e : Int) (he : e ≠ 0) : takeZ f n bs at' e = ((0, []), at', e) := by
  unfold takeZ; rw [if_neg he]

set_option maxRecDepth 100000 in
set_option maxHeartbeats 800000 in
theorem rtakeByte_any (v : Value) (bs : List Int) (at' : Nat) (e st : Int) (w : World) (h : Sl w v bs) (hl : bs.length ≤ 1000000000) (ha : at' ≤ bs.length) (hst : e ≠ 0 → st = at') :
    Calls Try.prog 45 #[.agg #[v, .int .i64 at', .int .i64 e, .int .i64 st]] w fun x w' => RRPost w v (takeZ 0 1 bs at' e) (.int .u8 (takeZ 0 1 bs at' e).1.1) x w' := by
  obtain ⟨ao, c, rfl, hc, hx⟩ := h
  by_cases he : e = 0
  · subst he
    by_cases hlt : at' < bs.length
    · have hz : takeZ 0 1 bs at' 0 = ((bs[at'], []), at' + 1, 0) := by
        have hd : bs.drop at' = bs[at'] :: bs.drop (at' + 1) := List.drop_eq_getElem_cons hlt
        have hle : leadZ 0 (bs.drop at') 1 = (bs[at'], 1, 0) := by
          have hln : ((bs.drop at').length : Int) = (bs.length : Int) - at' := by rw [List.length_drop]; omega
          unfold leadZ fixZ
          rw [if_pos rfl, if_neg (by omega), if_neg (by omega), hd]
          show (bs[at'] + 256 * 0, (1 : Int), (0 : Int)) = _
          rw [Int.mul_zero, Int.add_zero]
        unfold takeZ
        rw [if_pos rfl, hle]
        rfl
      rw [hz]
      obtain ⟨b, off, rfl, hj⟩ := hx (by intro e; subst e; simp at hlt)
      have hcj := hj at' bs[at'] (by simp [hlt])
      obtain ⟨y, hy⟩ : ∃ y, y = bs[at'] := ⟨_, rfl⟩
      rw [← hy] at hcj
      rw [← hy]
      have hbl := World.block_lt_of_cell? _ _ hcj
      clear hy hj hx hz hst
      go_enter Try.func45, Try.ntmps45
      go_wp2
      go_region
      all_goals go_wp2
      all_goals
        refine bodyPost_ret (v := .tuple #[.int .u8 y, .agg #[.slice (some ⟨b, off, none⟩) bs.length c, .int .i64 ((at' : Int) + 1), .int .i64 0, .int .i64 st]]) (by simp [results, Try.results45, go_sem]) rfl ?_
        exact ⟨st, by simp, fun h => absurd rfl h, (((Below.refl _ _).alloc (Nat.le_refl _) _).alloc (by simp) _).drew⟩
    · have hz : takeZ 0 1 bs at' 0 = ((0, []), at', 2) := by
        have hln : ((bs.drop at').length : Int) = 0 := by rw [List.length_drop]; omega
        have hle : leadZ 0 (bs.drop at') 1 = (0, 0, 2) := by
          unfold leadZ fixZ
          rw [if_pos rfl, if_neg (by omega), if_pos (by omega)]
        unfold takeZ
        rw [if_pos rfl, hle]
        rfl
      rw [hz]
      clear hx hz hst
      go_enter Try.func45, Try.ntmps45
      go_wp2_with (go_at_call 58; refine (rends_any ao bs.length c at' 0 st 2 _).mono ?_; rintro x w1 ⟨rfl, hb1⟩; have hq := (hb1.block (w.heap.size + 1) (by simp)).trans (new2r w _ _).1; obtain ⟨q0, q1, q2, q3⟩ := cell_of_four hq; have z0 := free_of_block (o := 0) hq; have z1 := free_of_block (o := 1) hq; have z2 := free_of_block (o := 2) hq; have z3 := free_of_block (o := 3) hq; have HB := hid hb1; clear hq hb1)
      refine bodyPost_ret (v := .tuple #[.int .u8 0, .agg #[.slice ao bs.length c, .int .i64 (at' : Int), .int .i64 2, .int .i64 (at' : Int)]]) (by simp [results, Try.results45, go_sem, q0, q1, q2, q3]) rfl ?_
      refine ⟨at', rfl, fun _ => rfl, ?_⟩
      have hb0 : ∀ X Y : Obj, Below w.heap.size w ((w.alloc X).alloc Y) := fun X Y => ((Below.refl _ _).alloc (Nat.le_refl _) _).alloc (by simp) _
      exact (((((hb0 _ _).trans (HB.out.mono (by simp; omega))).setCell (by simp) _).setCell (by simp) _).setCell (by simp) _).setCell (by simp) _
  · rw [takeZ_stop 0 1 bs at' e he]
    have he2 : (e != 0) = true := by simpa using he
    have HS := hid (hst he)
    clear hx hst
    go_enter Try.func45, Try.ntmps45
    go_wp2
    go_region
    all_goals go_wp2
    all_goals
      refine bodyPost_ret (v := .tuple #[.int .u8 0, .agg #[.slice ao bs.length c, .int .i64 (at' : Int), .int .i64 e, .int .i64 st]]) (by simp [results, Try.results45, go_sem]) rfl ?_
      exact ⟨st, rfl, fun _ => HS.out, (((Below.refl _ _).alloc (Nat.le_refl _) _).alloc (by simp) _).drew⟩

end Go.Proofs.Ytamajeagmkjjbaa
