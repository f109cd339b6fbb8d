import Derived.Test.YtamajeagmkjjbaaRef2
namespace Go.Proofs.Ytamajeagmkjjbaa
open Go.RowKit

/-- Bytes don't lie in a Writer's cells. -/
theorem sl_setPair {w : World} {v : Value} {bs : List Int} {q : Nat} {a : Option Addr} {n c : Nat} {e : Int} {t : TypeId} (h : Sl w v bs) (hq : w.heap[q]? = some (.cells #[.slice a n c, .int .i64 e] t (0, 0))) (i : Nat) (x : Value) : Sl (w.setCell ⟨q, i, none⟩ x) v bs := by
  obtain ⟨ao, cap, rfl, hc, hx⟩ := h
  refine ⟨ao, cap, rfl, hc, fun hne => ?_⟩
  obtain ⟨b, off, rfl, hj⟩ := hx hne
  refine ⟨b, off, rfl, ?_⟩
  have hbq : b ≠ q := by
    intro e
    subst e
    have h0 := hj 0 _ (List.getElem?_eq_getElem (List.length_pos_iff.2 hne))
    rw [cell_of_row w b _ _ t (0, 0) hq] at h0
    match off + 0, h0 with
    | 0, h0 => simp at h0
    | 1, h0 => simp at h0
    | k + 2, h0 => simp at h0
  intro j y hy
  rw [World.cell?_of_block (Below.heap_setCell _ _ _ _ hbq)]
  exact hj j y hy

theorem rw_finish {w w1 : World} {q : Nat} {a : Option Addr} {n c : Nat} {e0 e : Int} {t : TypeId} {ao : Option Addr} {len cap : Nat} {bs : List Int} (hq : w1.heap[q]? = some (.cells #[.slice a n c, .int .i64 e0] t (0, 0))) (hv : Sn w1 (.slice ao len cap) bs)
    (hb : Below w.heap.size w w1) (hge : w.heap.size ≤ q) {v0 : Value} (hf : .slice ao len cap = v0 ∨ ∀ k, (Value.slice ao len cap).ownBlock = some k → w.heap.size ≤ k ∧ k < w1.heap.size) : RWPost w v0 bs e (.returned (.agg #[.slice ao len cap, .int .i64 e])) ((w1.setCell ⟨q, 0, none⟩ (.slice ao len cap)).setCell ⟨q, 1, none⟩ (.int .i64 e)) := by
  refine ⟨_, rfl, ⟨sl_setPair (sl_setPair hv.1 hq 0 _) (heap_setCell_same hq) 1 _, hv.2⟩, (hb.setCell hge _).setCell hge _, by simpa [World.setCell] using hf⟩

theorem fresh_mono {v v0 : Value} {A B C D : Nat} (h : v = v0 ∨ ∀ k, v.ownBlock = some k → A ≤ k ∧ k < C) (hle : B ≤ A) (hcd : C ≤ D) : v = v0 ∨ ∀ k, v.ownBlock = some k → B ≤ k ∧ k < D := by
  rcases h with h | h
  · exact .inl h
  · exact .inr (fun k hk => ⟨Nat.le_trans hle (h k hk).1, Nat.lt_of_lt_of_le (h k hk).2 hcd⟩)

theorem new2 (w : World) (X Y : Obj) : ((w.alloc X).alloc Y).heap[w.heap.size + 1]? = some Y ∧ ((w.alloc X).alloc Y).heap[w.heap.size]? = some X := by
  constructor
  · have := heap_alloc_new (w.alloc X) Y
    simpa using this
  · rw [Below.heap_alloc _ _ _ (by simp)]
    exact heap_alloc_new w X

/-- What 'stopped' and its kin leave. -/
def stopZ (s : List Int × Int) (e : Int) : List Int × Int := if s.2 = 0 then (s.1, e) else s
def laidZ (s : List Int × Int) (xs : List Int) : List Int × Int := if s.2 = 0 then (s.1 ++ xs, 0) else s

theorem rlaid_any (v vb : Value) (s : List Int × Int) (xs : List Int) (w : World) (h : Sn w v s.1) (hb : Sn w vb xs) (hl : s.1.length + xs.length ≤ 10000000000) :
    Calls Try.prog 55 #[.agg #[v, .int .i64 s.2], vb] w fun x w' => RWPost w v (laidZ s xs).1 (laidZ s xs).2 x w' := by
  obtain ⟨bs, e⟩ := s
  unfold laidZ
  by_cases he : e = 0
  · subst he
    rw [if_pos rfl]
    exact rlaid_ok v vb bs xs w h hb hl
  · rw [if_neg he]
    exact rlaid_stop v vb bs e w h he

set_option maxRecDepth 100000 in
set_option maxHeartbeats 1600000 in
theorem rstop_any (v : Value) (s : List Int × Int) (e2 : Int) (w : World) (h : Sn w v s.1) :
    Calls Try.prog 56 #[.agg #[v, .int .i64 s.2], .int .i64 e2] w fun x w' => RWPost w v (stopZ s e2).1 (stopZ s e2).2 x w' := by
  obtain ⟨bs, e⟩ := s
  obtain ⟨ao, c, rfl⟩ := h.form
  have H := hid h
  clear h
  unfold stopZ
  by_cases he : e = 0
  · subst he
    rw [if_pos rfl]
    go_enter Try.func56, Try.ntmps56
    go_wp2
    refine bodyPost_ret (v := .agg #[.slice ao bs.length c, .int .i64 e2]) (by simp [results, Try.results56, go_sem]) rfl ?_
    exact ⟨_, rfl, (H.out.alloc _).alloc _, ((Below.refl _ _).alloc (Nat.le_refl _) _).alloc (by simp) _, .inl rfl⟩
  · rw [if_neg he]
    have he2 : (e == 0) = false := by simpa using he
    go_enter Try.func56, Try.ntmps56
    go_wp2
    refine bodyPost_ret (v := .agg #[.slice ao bs.length c, .int .i64 e]) (by simp [results, Try.results56, go_sem]) rfl ?_
    exact ⟨_, rfl, (H.out.alloc _).alloc _, ((Below.refl _ _).alloc (Nat.le_refl _) _).alloc (by simp) _, .inl rfl⟩

set_option maxRecDepth 100000 in
set_option maxHeartbeats 1600000 in
theorem rbyteW_any (v : Value) (s : List Int × Int) (y : Int) (w : World) (h : Sn w v s.1) (hl : s.1.length ≤ 1000000000) :
    Calls Try.prog 37 #[.agg #[v, .int .i64 s.2], .int .u8 y] w fun x w' => RWPost w v (laidZ s [y]).1 (laidZ s [y]).2 x w' := by
  obtain ⟨ao, c, rfl⟩ := h.form
  obtain ⟨bs, e⟩ := s
  have H := hid h
  clear h
  dsimp only at hl
  obtain ⟨R, hR⟩ : ∃ R, R = laidZ (bs, e) [y] := ⟨_, rfl⟩
  rw [← hR]
  have HR := hid hR
  clear hR
  go_enter Try.func37, Try.ntmps37
  go_wp2_with fail
  have hnb : ∀ X Y : Obj, Sn (((w.alloc X).alloc Y).alloc (.cells #[.int .u8 y] 5)) (.slice (some ⟨w.heap.size + 1 + 1, 0, none⟩) 1 1) [y] := fun X Y => by
    have h1 : Own (((w.alloc X).alloc Y).alloc (.cells #[.int .u8 y] 5)) (w.heap.size + 1 + 1) [y] := by
      have := heap_alloc_new ((w.alloc X).alloc Y) (.cells #[.int .u8 y] 5)
      simpa [Own, B8] using this
    exact sn_of_owns (h1.owns (B := 0) (Nat.zero_le _) (by unfold maxLen; simp))
  refine (rlaid_any _ _ (bs, e) [y] _ (((H.out.alloc _).alloc _).alloc _) (hnb _ _) (by simp; omega)).mono ?_
  rw [← HR.out]
  rintro x w1 ⟨v1, rfl, hs1, hb1, hf1⟩
  obtain ⟨ao1, c1, rfl⟩ := hs1.form
  have hq : w1.heap[w.heap.size + 1]? = some (.cells #[.slice none 0 0, .int .i64 0] 31 (0, 0)) := (hb1.block _ (by simp)).trans ((Below.heap_alloc _ _ _ (by simp)).trans (new2 w _ _).1)
  have HF := hid (rw_finish (e := R.2) hq hs1 (((((Below.refl _ _).alloc (Nat.le_refl _) _).alloc (by simp) _).alloc (by rw [World.size_alloc, World.size_alloc]; omega) _).trans (hb1.mono (by simp; omega))) (by omega) (fresh_mono hf1 (by first | omega | (simp; omega) | (simp at hz1; omega)) (Nat.le_refl _)))
  obtain ⟨d2, d3⟩ := cell_of_pair hq
  have z1 := free_of_block (o := 0) hq
  have z2 := free_of_block (o := 1) hq
  clear hq hs1 hb1 hf1 hnb H HR
  go_wp2
  refine bodyPost_ret (v := .agg #[.slice ao1 R.1.length c1, .int .i64 R.2]) (by simp [results, Try.results37, go_sem, d2, d3]) rfl ?_
  exact HF.out

/-- The bytes of 'Fixed', one by one. -/
def fixF : Nat → Int → List Int
  | 0, _ => []
  | n + 1, v => v % 256 :: fixF n (v / 256)

theorem fixF_len (n : Nat) (v : Int) : (fixF n v).length = n := by
  induction n generalizing v with
  | zero => rfl
  | succ n ih => simp [fixF, ih]

def rfixZ (s : List Int × Int) (v n : Int) : List Int × Int := if n < 0 ∨ 8 < n then stopZ s 1 else laidZ s (fixF n.toNat v)
def rnumZ (s : List Int × Int) (v : Int) : List Int × Int := if v < 0 then stopZ s 15 else laidZ s (rowF 10 v)
def rintZ (s : List Int × Int) (v : Int) : List Int × Int := laidZ s (rowF 10 (foldZ v))
def rtextZ (s : List Int × Int) (t : List Int) : List Int × Int := laidZ (rnumZ s t.length) t

end Go.Proofs.Ytamajeagmkjjbaa
