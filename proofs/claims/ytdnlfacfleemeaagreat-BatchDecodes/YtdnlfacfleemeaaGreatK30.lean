import Derived.Test.YtdnlfacfleemeaaGreatK16
import Derived.Test.YtdnlfacfleemeaaGreatK02
namespace Go.Proofs.YtdnlfacfleemeaaGreat
open Go.RowKit

/-- A Writer of the document, answered. -/
def RWPost (w : World) (v0 : Value) (bs : List Int) (e : Int) (x : Ending) (w' : World) : Prop := ∃ v, x = .returned (.agg #[v, .int .i64 e]) ∧ Sn w' v bs ∧ Below w.heap.size w w' ∧ (v = v0 ∨ ∀ k, v.ownBlock = some k → w.heap.size ≤ k ∧ k < w'.heap.size)

theorem Sn.form {w : World} {v : Value} {bs : List Int} (h : Sn w v bs) : ∃ ao c, v = .slice ao bs.length c := by
  obtain ⟨⟨ao, cap, rfl, _⟩, _⟩ := h
  exact ⟨_, _, rfl⟩

set_option maxRecDepth 100000 in
set_option maxHeartbeats 1600000 in
theorem rlaid_stop (v vb : Value) (bs : List Int) (e : Int) (w : World) (h : Sn w v bs) (he : e ≠ 0) :
    Calls Tryz.prog 47 #[.agg #[v, .int .i64 e], vb] w fun x w' => RWPost w v bs e x w' := by
  have he2 : (e != 0) = true := by simpa using he
  obtain ⟨ao, c, rfl⟩ := h.form
  have H := hid h
  clear h he
  go_enter Tryz.func47, Tryz.ntmps47
  go_wp2
  refine bodyPost_ret (v := .agg #[.slice ao bs.length c, .int .i64 e]) (by simp [results, Tryz.results47, go_sem]) rfl ?_
  exact ⟨_, rfl, (H.out.alloc _).alloc _, ((Below.refl _ _).alloc (Nat.le_refl _) _).alloc (by simp) _, .inl rfl⟩

set_option maxRecDepth 100000 in
set_option maxHeartbeats 1600000 in
theorem rlaid_ok (v vb : Value) (bs xs : List Int) (w : World) (h : Sn w v bs) (hb : Sn w vb xs) (hl : bs.length + xs.length ≤ 10000000000) :
    Calls Tryz.prog 47 #[.agg #[v, .int .i64 0], vb] w fun x w' => RWPost w v (bs ++ xs) 0 x w' := by
  obtain ⟨ao, c, rfl⟩ := h.form
  have H := hid h
  have HB := hid hb
  clear h hb
  go_enter Tryz.func47, Tryz.ntmps47
  go_wp2_with (at_builtin; refine wpList_append_sn _ rfl (.tmp 10) (.tmp 12) rfl (w.heap.size + 2) (.slice none 0 0) 0 [] rfl (World.ownsRow_nil _ _ _ _) _ bs rfl ((H.out.alloc _).alloc _) (by omega) (by simp) ?_)
  intro ao1 c1 w1 ho1 hg1
  have hz1 := hg1.size
  have q0 : w1.heap[w.heap.size]? = some (.cells #[.slice ao bs.length c, .int .i64 0] 66 (0, 0)) := by
    rw [hg1.block _ (by simp; omega) (by simp [Value.ownBlock]), Below.heap_alloc _ _ _ (by simp)]
    exact heap_alloc_new w _
  have q1 : w1.heap[w.heap.size + 1]? = some (.cells #[.slice none 0 0, .int .i64 0] 66 (0, 0)) := by
    rw [hg1.block _ (by simp) (by simp [Value.ownBlock])]
    have := heap_alloc_new (w.alloc (.cells #[.slice ao bs.length c, .int .i64 0] 66)) (.cells #[.slice none 0 0, .int .i64 0] 66)
    simpa using this
  have hbel : Below w.heap.size w w1 := (((Below.refl _ _).alloc (Nat.le_refl _) _).alloc (by simp) _).grown hg1 (by simp; omega) (by intro k hk; simp [Value.ownBlock] at hk)
  have Q0 := hid q0
  have Q1 := hid q1
  have HB1 := hid (HB.out.below hbel)
  simp at hz1
  clear q0 q1 hg1 HB H
  go_wp2_with (at_builtin; refine wpList_append_sn _ rfl (.tmp 14) (.tmp 15) rfl (w.heap.size + 2) _ bs.length bs rfl ho1 _ xs rfl HB1.out (by omega) (by omega) ?_)
  intro ao2 c2 w2 ho2 hg2
  have hlo := ho1.lt
  have r0 : w2.heap[w.heap.size]? = some (.cells #[.slice ao bs.length c, .int .i64 0] 66 (0, 0)) := by
    rw [hg2.block _ (by omega) (fun h => by have := hlo _ h.symm; omega)]
    exact Q0.out
  have r1 : w2.heap[w.heap.size + 1]? = some (.cells #[.slice none 0 0, .int .i64 0] 66 (0, 0)) := by
    rw [hg2.block _ (by omega) (fun h => by have := hlo _ h.symm; omega)]
    exact Q1.out
  have hb2 : Below w.heap.size w w2 := hbel.grown hg2 (by omega) (fun k hk => by have := hlo k hk; omega)
  obtain ⟨d0, d1⟩ := cell_of_pair r0
  obtain ⟨d2, d3⟩ := cell_of_pair r1
  have z0 := free_of_block (o := 0) r0
  have z1 := free_of_block (o := 0) r1
  have z2 := free_of_block (o := 1) r1
  have HO := hid ho2
  have hne : (w.heap.size : Nat) ≠ w.heap.size + 1 := by omega
  clear hg2 ho1 ho2 hlo Q0 Q1 HB1 hbel r0 r1
  go_wp2
  have hk : Kept (fun k => k = w.heap.size ∨ k = w.heap.size + 1) w2 (((w2.setCell ⟨w.heap.size, 0, none⟩ (.slice ao2 (bs.length + xs.length) c2)).setCell ⟨w.heap.size + 1, 0, none⟩ (.slice ao2 (bs.length + xs.length) c2)).setCell ⟨w.heap.size + 1, 1, none⟩ (.int .i64 0)) :=
    (((Kept.refl (fun k => k = w.heap.size ∨ k = w.heap.size + 1) w2).setCell (fun _ => .inl rfl) _).setCell (fun _ => .inr rfl) _).setCell (fun _ => .inr rfl) _
  have ho3 : w2.ownsRow (w.heap.size + 2) 5 1 (.slice ao2 (bs.length + xs.length) c2) (bs.length + xs.length) (B8 (bs ++ xs)) := by
    have := HO.out
    simpa [B8] using this
  refine bodyPost_ret (v := .agg #[.slice ao2 (bs.length + xs.length) c2, .int .i64 0]) (by simp [results, Tryz.results47, go_sem, d2, d3]) rfl ?_
  refine ⟨_, rfl, ?_, ?_, .inr (fun k hk2 => by have h1 := ho3.lt k hk2; have h2 := hk.size; omega)⟩
  · exact (sn_of_owns ho3).kept hk (fun k h1 h2 => by have := ho3.lt k h1; omega)
  · exact ((hb2.setCell (Nat.le_refl _) _).setCell (by simp) _).setCell (by simp) _

end Go.Proofs.YtdnlfacfleemeaaGreat

namespace Go.Proofs.YtdnlfacfleemeaaGreat
open Go.RowKit

/-- Bytes don't lie in a Writer's cells. -/
theorem sl_setPair {w : World} {v : Value} {bs : List Int} {q : Nat} {a : Option Addr} {n c : Nat} {e : Int} {t : TypeId} (h : Sl w v bs) (hq : w.heap[q]? = some (.cells #[.slice a n c, .int .i64 e] t (0, 0))) (i : Nat) (x : Value) : Sl (w.setCell ⟨q, i, none⟩ x) v bs := by
  obtain ⟨ao, cap, rfl, hc, hx⟩ := h
  refine ⟨ao, cap, rfl, hc, fun hne => ?_⟩
  obtain ⟨b, off, rfl, hj⟩ := hx hne
  refine ⟨b, off, rfl, ?_⟩
  have hbq : b ≠ q := by
    intro e
    subst e
    have h0 := hj 0 _ (List.getElem?_eq_getElem (List.length_pos_iff.2 hne))
    rw [cell_of_row w b _ _ t (0, 0) hq] at h0
    match off + 0, h0 with
    | 0, h0 => simp at h0
    | 1, h0 => simp at h0
    | k + 2, h0 => simp at h0
  intro j y hy
  rw [World.cell?_of_block (Below.heap_setCell _ _ _ _ hbq)]
  exact hj j y hy

theorem rw_finish {w w1 : World} {q : Nat} {a : Option Addr} {n c : Nat} {e0 e : Int} {t : TypeId} {ao : Option Addr} {len cap : Nat} {bs : List Int} (hq : w1.heap[q]? = some (.cells #[.slice a n c, .int .i64 e0] t (0, 0))) (hv : Sn w1 (.slice ao len cap) bs)
    (hb : Below w.heap.size w w1) (hge : w.heap.size ≤ q) {v0 : Value} (hf : .slice ao len cap = v0 ∨ ∀ k, (Value.slice ao len cap).ownBlock = some k → w.heap.size ≤ k ∧ k < w1.heap.size) : RWPost w v0 bs e (.returned (.agg #[.slice ao len cap, .int .i64 e])) ((w1.setCell ⟨q, 0, none⟩ (.slice ao len cap)).setCell ⟨q, 1, none⟩ (.int .i64 e)) := by
  refine ⟨_, rfl, ⟨sl_setPair (sl_setPair hv.1 hq 0 _) (heap_setCell_same hq) 1 _, hv.2⟩, (hb.setCell hge _).setCell hge _, by simpa [World.setCell] using hf⟩

theorem fresh_mono {v v0 : Value} {A B C D : Nat} (h : v = v0 ∨ ∀ k, v.ownBlock = some k → A ≤ k ∧ k < C) (hle : B ≤ A) (hcd : C ≤ D) : v = v0 ∨ ∀ k, v.ownBlock = some k → B ≤ k ∧ k < D := by
  rcases h with h | h
  · exact .inl h
  · exact .inr (fun k hk => ⟨Nat.le_trans hle (h k hk).1, Nat.lt_of_lt_of_le (h k hk).2 hcd⟩)

theorem new2 (w : World) (X Y : Obj) : ((w.alloc X).alloc Y).heap[w.heap.size + 1]? = some Y ∧ ((w.alloc X).alloc Y).heap[w.heap.size]? = some X := by
  constructor
  · have := heap_alloc_new (w.alloc X) Y
    simpa using this
  · rw [Below.heap_alloc _ _ _ (by simp)]
    exact heap_alloc_new w X

/-- What 'stopped' and its kin leave. -/
def stopZ (s : List Int × Int) (e : Int) : List Int × Int := if s.2 = 0 then (s.1, e) else s
def laidZ (s : List Int × Int) (xs : List Int) : List Int × Int := if s.2 = 0 then (s.1 ++ xs, 0) else s

theorem rlaid_any (v vb : Value) (s : List Int × Int) (xs : List Int) (w : World) (h : Sn w v s.1) (hb : Sn w vb xs) (hl : s.1.length + xs.length ≤ 10000000000) :
    Calls Tryz.prog 47 #[.agg #[v, .int .i64 s.2], vb] w fun x w' => RWPost w v (laidZ s xs).1 (laidZ s xs).2 x w' := by
  obtain ⟨bs, e⟩ := s
  unfold laidZ
  by_cases he : e = 0
  · subst he
    rw [if_pos rfl]
    exact rlaid_ok v vb bs xs w h hb hl
  · rw [if_neg he]
    exact rlaid_stop v vb bs e w h he

set_option maxRecDepth 100000 in
set_option maxHeartbeats 1600000 in
theorem rstop_any (v : Value) (s : List Int × Int) (e2 : Int) (w : World) (h : Sn w v s.1) :
    Calls Tryz.prog 46 #[.agg #[v, .int .i64 s.2], .int .i64 e2] w fun x w' => RWPost w v (stopZ s e2).1 (stopZ s e2).2 x w' := by
  obtain ⟨bs, e⟩ := s
  obtain ⟨ao, c, rfl⟩ := h.form
  have H := hid h
  clear h
  unfold stopZ
  by_cases he : e = 0
  · subst he
    rw [if_pos rfl]
    go_enter Tryz.func46, Tryz.ntmps46
    go_wp2
    refine bodyPost_ret (v := .agg #[.slice ao bs.length c, .int .i64 e2]) (by simp [results, Tryz.results46, go_sem]) rfl ?_
    exact ⟨_, rfl, (H.out.alloc _).alloc _, ((Below.refl _ _).alloc (Nat.le_refl _) _).alloc (by simp) _, .inl rfl⟩
  · rw [if_neg he]
    have he2 : (e == 0) = false := by simpa using he
    go_enter Tryz.func46, Tryz.ntmps46
    go_wp2
    refine bodyPost_ret (v := .agg #[.slice ao bs.length c, .int .i64 e]) (by simp [results, Tryz.results46, go_sem]) rfl ?_
    exact ⟨_, rfl, (H.out.alloc _).alloc _, ((Below.refl _ _).alloc (Nat.le_refl _) _).alloc (by simp) _, .inl rfl⟩

set_option maxRecDepth 100000 in
set_option maxHeartbeats 1600000 in
theorem rbyteW_any (v : Value) (s : List Int × Int) (y : Int) (w : World) (h : Sn w v s.1) (hl : s.1.length ≤ 1000000000) :
    Calls Tryz.prog 49 #[.agg #[v, .int .i64 s.2], .int .u8 y] w fun x w' => RWPost w v (laidZ s [y]).1 (laidZ s [y]).2 x w' := by
  obtain ⟨ao, c, rfl⟩ := h.form
  obtain ⟨bs, e⟩ := s
  have H := hid h
  clear h
  dsimp only at hl
  obtain ⟨R, hR⟩ : ∃ R, R = laidZ (bs, e) [y] := ⟨_, rfl⟩
  rw [← hR]
  have HR := hid hR
  clear hR
  go_enter Tryz.func49, Tryz.ntmps49
  go_wp2_with fail
  have hnb : ∀ X Y : Obj, Sn (((w.alloc X).alloc Y).alloc (.cells #[.int .u8 y] 5)) (.slice (some ⟨w.heap.size + 1 + 1, 0, none⟩) 1 1) [y] := fun X Y => by
    have h1 : Own (((w.alloc X).alloc Y).alloc (.cells #[.int .u8 y] 5)) (w.heap.size + 1 + 1) [y] := by
      have := heap_alloc_new ((w.alloc X).alloc Y) (.cells #[.int .u8 y] 5)
      simpa [Own, B8] using this
    exact sn_of_owns (h1.owns (B := 0) (Nat.zero_le _) (by unfold maxLen; simp))
  refine (rlaid_any _ _ (bs, e) [y] _ (((H.out.alloc _).alloc _).alloc _) (hnb _ _) (by simp; omega)).mono ?_
  rw [← HR.out]
  rintro x w1 ⟨v1, rfl, hs1, hb1, hf1⟩
  obtain ⟨ao1, c1, rfl⟩ := hs1.form
  have hq : w1.heap[w.heap.size + 1]? = some (.cells #[.slice none 0 0, .int .i64 0] 66 (0, 0)) := (hb1.block _ (by simp)).trans ((Below.heap_alloc _ _ _ (by simp)).trans (new2 w _ _).1)
  have HF := hid (rw_finish (e := R.2) hq hs1 (((((Below.refl _ _).alloc (Nat.le_refl _) _).alloc (by simp) _).alloc (by rw [World.size_alloc, World.size_alloc]; omega) _).trans (hb1.mono (by simp; omega))) (by omega) (fresh_mono hf1 (by first | omega | (simp; omega) | (simp at hz1; omega)) (Nat.le_refl _)))
  obtain ⟨d2, d3⟩ := cell_of_pair hq
  have z1 := free_of_block (o := 0) hq
  have z2 := free_of_block (o := 1) hq
  clear hq hs1 hb1 hf1 hnb H HR
  go_wp2
  refine bodyPost_ret (v := .agg #[.slice ao1 R.1.length c1, .int .i64 R.2]) (by simp [results, Tryz.results49, go_sem, d2, d3]) rfl ?_
  exact HF.out

/-- The bytes of 'Fixed', one by one. -/
def fixF : Nat → Int → List Int
  | 0, _ => []
  | n + 1, v => v % 256 :: fixF n (v / 256)

theorem fixF_len (n : Nat) (v : Int) : (fixF n v).length = n := by
  induction n generalizing v with
  | zero => rfl
  | succ n ih => simp [fixF, ih]

def rfixZ (s : List Int × Int) (v n : Int) : List Int × Int := if n < 0 ∨ 8 < n then stopZ s 1 else laidZ s (fixF n.toNat v)
def rnumZ (s : List Int × Int) (v : Int) : List Int × Int := if v < 0 then stopZ s 15 else laidZ s (rowF 10 v)
def rintZ (s : List Int × Int) (v : Int) : List Int × Int := laidZ s (rowF 10 (foldZ v))
def rtextZ (s : List Int × Int) (t : List Int) : List Int × Int := laidZ (rnumZ s t.length) t

end Go.Proofs.YtdnlfacfleemeaaGreat

namespace Go.Proofs.YtdnlfacfleemeaaGreat
open Go.RowKit

set_option maxRecDepth 100000 in
set_option maxHeartbeats 400000 in
theorem rnumW_any (v : Value) (s : List Int × Int) (y : Int) (w : World) (h : Sn w v s.1) (hl : s.1.length ≤ 2000000000) (hy : y < 9223372036854775808) :
    Calls Tryz.prog 24 #[.agg #[v, .int .i64 s.2], .int .i64 y] w fun x w' => RWPost w v (rnumZ s y).1 (rnumZ s y).2 x w' := by
  obtain ⟨ao, c, rfl⟩ := h.form
  obtain ⟨bs, e⟩ := s
  have H := hid h
  clear h
  dsimp only at hl
  unfold rnumZ
  by_cases hn : y < 0
  · rw [if_pos hn]
    obtain ⟨R, hR⟩ : ∃ R, R = stopZ (bs, e) 15 := ⟨_, rfl⟩
    rw [← hR]
    have HR := hid hR
    clear hR
    go_enter Tryz.func24, Tryz.ntmps24
    go_wp2_with fail
    refine (rstop_any _ (bs, e) 15 _ ((H.out.alloc _).alloc _)).mono ?_
    rw [← HR.out]
    rintro x w1 ⟨v1, rfl, hs1, hb1, hf1⟩
    obtain ⟨ao1, c1, rfl⟩ := hs1.form
    have hq : w1.heap[w.heap.size + 1]? = some (.cells #[.slice none 0 0, .int .i64 0] 66 (0, 0)) := (hb1.block _ (by simp)).trans (new2 w _ _).1
    have HF := hid (rw_finish (e := R.2) hq hs1 ((((Below.refl _ _).alloc (Nat.le_refl _) _).alloc (by simp) _).trans (hb1.mono (by simp; omega))) (by omega) (fresh_mono hf1 (by first | omega | (simp; omega) | (simp at hz1; omega)) (Nat.le_refl _)))
    obtain ⟨d2, d3⟩ := cell_of_pair hq
    have z1 := free_of_block (o := 0) hq
    have z2 := free_of_block (o := 1) hq
    clear hq hs1 hb1 hf1 H HR
    go_wp2
    refine bodyPost_ret (v := .agg #[.slice ao1 R.1.length c1, .int .i64 R.2]) (by simp [results, Tryz.results24, go_sem, d2, d3]) rfl ?_
    exact HF.out
  · rw [if_neg hn]
    obtain ⟨R, hR⟩ : ∃ R, R = laidZ (bs, e) (rowF 10 y) := ⟨_, rfl⟩
    rw [← hR]
    have HR := hid hR
    have hy0 : 0 ≤ y := by omega
    have hlr := rowF_le 10 y
    have hwr : IntKind.u64.wrap y = y := by rw [IntKind.wrap_u64]; omega
    clear hR hn
    go_enter Tryz.func24, Tryz.ntmps24
    go_wp2_with fail
    obtain ⟨Wc, hWc⟩ : ∃ Wc, Wc = (w.alloc (.cells #[.slice ao bs.length c, .int .i64 e] 66)).alloc (.cells #[.slice none 0 0, .int .i64 0] 66) := ⟨_, rfl⟩
    have hb0 : Below w.heap.size w Wc := by rw [hWc]; exact ((Below.refl _ _).alloc (Nat.le_refl _) _).alloc (by simp) _
    have hz0 : Wc.heap.size = w.heap.size + 2 := by rw [hWc]; simp
    obtain ⟨hq0, hp0⟩ : Wc.heap[w.heap.size + 1]? = some (.cells #[.slice none 0 0, .int .i64 0] 66 (0, 0)) ∧ Wc.heap[w.heap.size]? = some (.cells #[.slice ao bs.length c, .int .i64 e] 66 (0, 0)) := by rw [hWc]; exact new2 w _ _
    rw [← hWc]
    obtain ⟨c0, c1⟩ := cell_of_pair hp0
    have Hq := hid hq0
    have Hz := hid hz0
    have hz : w.heap.size + 2 ≤ Wc.heap.size := by omega
    clear hWc hq0 hp0 hz0
    go_region_held3 (fun w' => w'.cell? ⟨w.heap.size, 0, none⟩ = some (.slice ao bs.length c) ∧ w'.cell? ⟨w.heap.size, 1, none⟩ = some (.int .i64 e))
      (first | (go_keep; done) | (rw [k0, k1]; exact ⟨c0, c1⟩) | (rw [m0, m1]; exact ⟨c0, c1⟩))
      (first
        | (go_at_call 48; refine (sevens_any y _ hy0 (by omega)).mono ?_; rintro x w1 ⟨vs, rfl, hsn, hb⟩; have hz1 := hb.size; have hbw := hb0.drew.trans (hb.mono (by simp; omega)); have k0 := hb.cell (p := ⟨w.heap.size, 0, none⟩) (by simp; omega); have k1 := hb.cell (p := ⟨w.heap.size, 1, none⟩) (by simp; omega))
        | (go_at_call 47; refine (rlaid_any _ _ (bs, e) (rowF 10 y) _ (H.out.below hbw) hsn (by dsimp only; omega)).mono ?_; rintro x w2 ⟨v1, rfl, hs1, hb1, hf1⟩; obtain ⟨ao1, c1', rfl⟩ := hs1.form; have m0 := hb1.cell (p := ⟨w.heap.size, 0, none⟩) (by simp at hz1; simp; omega); have m1 := hb1.cell (p := ⟨w.heap.size, 1, none⟩) (by simp at hz1; simp; omega); have hq2 := (hb1.block (w.heap.size + 1) (by simp at hz1; omega)).trans ((hb.block (w.heap.size + 1) (by simp; omega)).trans Hq.out); obtain ⟨d2, d3⟩ := cell_of_pair hq2; have z1 := free_of_block (o := 0) hq2; have z2 := free_of_block (o := 1) hq2; have HQ := hid hq2; clear hq2))
    have HF := hid (rw_finish (w := w) (e := (laidZ (bs, e) (rowF 10 y)).2) HQ.out hs1 (hbw.trans (hb1.mono (by simp at hz1; omega))) (by omega) (fresh_mono hf1 (by first | omega | (simp; omega) | (simp at hz1; omega)) (Nat.le_refl _)))
    clear hs1 hb1 hf1 hb hsn hbw k0 k1 m0 m1
    go_wp2
    refine bodyPost_ret (v := .agg #[.slice ao1 (laidZ (bs, e) (rowF 10 y)).1.length c1', .int .i64 (laidZ (bs, e) (rowF 10 y)).2]) (by simp [results, Tryz.results24, go_sem, d2, d3]) rfl ?_
    rw [HR.out]
    exact HF.out

set_option maxRecDepth 100000 in
set_option maxHeartbeats 400000 in
theorem rintW_any (v : Value) (s : List Int × Int) (y : Int) (w : World) (h : Sn w v s.1) (hl : s.1.length ≤ 2000000000) (hy1 : -9223372036854775808 ≤ y) (hy : y < 9223372036854775808) :
    Calls Tryz.prog 75 #[.agg #[v, .int .i64 s.2], .int .i64 y] w fun x w' => RWPost w v (rintZ s y).1 (rintZ s y).2 x w' := by
  obtain ⟨ao, c, rfl⟩ := h.form
  obtain ⟨bs, e⟩ := s
  have H := hid h
  clear h
  dsimp only at hl
  unfold rintZ
  by_cases hn : y < 0
  · rw [show foldZ y = 2 * (-(y + 1)) + 1 by unfold foldZ; rw [if_pos hn]; omega]
    have hw1 : IntKind.i64.wrap (y + 1) = y + 1 := by rw [IntKind.wrap_i64]; omega
    have hw2 : IntKind.i64.wrap (-(y + 1)) = -(y + 1) := by rw [IntKind.wrap_i64]; omega
    have hw3 : IntKind.u64.wrap (-(y + 1)) = -(y + 1) := by rw [IntKind.wrap_u64]; omega
    have hw4 : IntKind.u64.wrap (2 * (-(y + 1))) = 2 * (-(y + 1)) := by rw [IntKind.wrap_u64]; omega
    have hw5 : IntKind.u64.wrap (2 * (-(y + 1)) + 1) = 2 * (-(y + 1)) + 1 := by rw [IntKind.wrap_u64]; omega
    obtain ⟨R, hR⟩ : ∃ R, R = laidZ (bs, e) (rowF 10 (2 * (-(y + 1)) + 1)) := ⟨_, rfl⟩
    rw [← hR]
    have HR := hid hR
    have hlr := rowF_le 10 (2 * (-(y + 1)) + 1)
    clear hR
    go_enter Tryz.func75, Tryz.ntmps75
    go_wp2_with fail
    obtain ⟨Wc, hWc⟩ : ∃ Wc, Wc = (w.alloc (.cells #[.slice ao bs.length c, .int .i64 e] 66)).alloc (.cells #[.slice none 0 0, .int .i64 0] 66) := ⟨_, rfl⟩
    have hb0 : Below w.heap.size w Wc := by rw [hWc]; exact ((Below.refl _ _).alloc (Nat.le_refl _) _).alloc (by simp) _
    have hz0 : Wc.heap.size = w.heap.size + 2 := by rw [hWc]; simp
    obtain ⟨hq0, hp0⟩ : Wc.heap[w.heap.size + 1]? = some (.cells #[.slice none 0 0, .int .i64 0] 66 (0, 0)) ∧ Wc.heap[w.heap.size]? = some (.cells #[.slice ao bs.length c, .int .i64 e] 66 (0, 0)) := by rw [hWc]; exact new2 w _ _
    rw [← hWc]
    obtain ⟨c0, c1⟩ := cell_of_pair hp0
    have Hq := hid hq0
    have Hz := hid hz0
    have hz : w.heap.size + 2 ≤ Wc.heap.size := by omega
    clear hWc hq0 hp0 hz0
    go_region_held3 (fun w' => w'.cell? ⟨w.heap.size, 0, none⟩ = some (.slice ao bs.length c) ∧ w'.cell? ⟨w.heap.size, 1, none⟩ = some (.int .i64 e))
      (first | (go_keep; done) | (rw [k0, k1]; exact ⟨c0, c1⟩) | (rw [m0, m1]; exact ⟨c0, c1⟩))
      (first
        | (go_at_call 48; refine (sevens_any (2 * (-(y + 1)) + 1) _ (by omega) (by omega)).mono ?_; rintro x w1 ⟨vs, rfl, hsn, hb⟩; have hz1 := hb.size; have hbw := hb0.drew.trans (hb.mono (by simp; omega)); have k0 := hb.cell (p := ⟨w.heap.size, 0, none⟩) (by simp; omega); have k1 := hb.cell (p := ⟨w.heap.size, 1, none⟩) (by simp; omega))
        | (go_at_call 47; refine (rlaid_any _ _ (bs, e) (rowF 10 (2 * (-(y + 1)) + 1)) _ (H.out.below hbw) hsn (by dsimp only; omega)).mono ?_; rintro x w2 ⟨v1, rfl, hs1, hb1, hf1⟩; obtain ⟨ao1, c1', rfl⟩ := hs1.form; have m0 := hb1.cell (p := ⟨w.heap.size, 0, none⟩) (by simp at hz1; simp; omega); have m1 := hb1.cell (p := ⟨w.heap.size, 1, none⟩) (by simp at hz1; simp; omega); have hq2 := (hb1.block (w.heap.size + 1) (by simp at hz1; omega)).trans ((hb.block (w.heap.size + 1) (by simp; omega)).trans Hq.out); obtain ⟨d2, d3⟩ := cell_of_pair hq2; have z1 := free_of_block (o := 0) hq2; have z2 := free_of_block (o := 1) hq2; have HQ := hid hq2; clear hq2))
    have HF := hid (rw_finish (w := w) (e := (laidZ (bs, e) (rowF 10 (2 * (-(y + 1)) + 1))).2) HQ.out hs1 (hbw.trans (hb1.mono (by simp at hz1; omega))) (by omega) (fresh_mono hf1 (by first | omega | (simp; omega) | (simp at hz1; omega)) (Nat.le_refl _)))
    clear hs1 hb1 hf1 hb hsn hbw k0 k1 m0 m1
    go_wp2
    refine bodyPost_ret (v := .agg #[.slice ao1 (laidZ (bs, e) (rowF 10 (2 * (-(y + 1)) + 1))).1.length c1', .int .i64 (laidZ (bs, e) (rowF 10 (2 * (-(y + 1)) + 1))).2]) (by simp [results, Tryz.results75, go_sem, d2, d3]) rfl ?_
    rw [HR.out]
    exact HF.out
  · rw [show foldZ y = 2 * y by unfold foldZ; rw [if_neg hn]]
    have hw3 : IntKind.u64.wrap y = y := by rw [IntKind.wrap_u64]; omega
    have hw4 : IntKind.u64.wrap (2 * y) = 2 * y := by rw [IntKind.wrap_u64]; omega
    have hn2 : 0 ≤ y := by omega
    clear hn
    obtain ⟨R, hR⟩ : ∃ R, R = laidZ (bs, e) (rowF 10 (2 * y)) := ⟨_, rfl⟩
    rw [← hR]
    have HR := hid hR
    have hlr := rowF_le 10 (2 * y)
    clear hR
    go_enter Tryz.func75, Tryz.ntmps75
    go_wp2_with fail
    obtain ⟨Wc, hWc⟩ : ∃ Wc, Wc = (w.alloc (.cells #[.slice ao bs.length c, .int .i64 e] 66)).alloc (.cells #[.slice none 0 0, .int .i64 0] 66) := ⟨_, rfl⟩
    have hb0 : Below w.heap.size w Wc := by rw [hWc]; exact ((Below.refl _ _).alloc (Nat.le_refl _) _).alloc (by simp) _
    have hz0 : Wc.heap.size = w.heap.size + 2 := by rw [hWc]; simp
    obtain ⟨hq0, hp0⟩ : Wc.heap[w.heap.size + 1]? = some (.cells #[.slice none 0 0, .int .i64 0] 66 (0, 0)) ∧ Wc.heap[w.heap.size]? = some (.cells #[.slice ao bs.length c, .int .i64 e] 66 (0, 0)) := by rw [hWc]; exact new2 w _ _
    rw [← hWc]
    obtain ⟨c0, c1⟩ := cell_of_pair hp0
    have Hq := hid hq0
    have Hz := hid hz0
    have hz : w.heap.size + 2 ≤ Wc.heap.size := by omega
    clear hWc hq0 hp0 hz0
    go_region_held3 (fun w' => w'.cell? ⟨w.heap.size, 0, none⟩ = some (.slice ao bs.length c) ∧ w'.cell? ⟨w.heap.size, 1, none⟩ = some (.int .i64 e))
      (first | (go_keep; done) | (rw [k0, k1]; exact ⟨c0, c1⟩) | (rw [m0, m1]; exact ⟨c0, c1⟩))
      (first
        | (go_at_call 48; refine (sevens_any (2 * y) _ (by omega) (by omega)).mono ?_; rintro x w1 ⟨vs, rfl, hsn, hb⟩; have hz1 := hb.size; have hbw := hb0.drew.trans (hb.mono (by simp; omega)); have k0 := hb.cell (p := ⟨w.heap.size, 0, none⟩) (by simp; omega); have k1 := hb.cell (p := ⟨w.heap.size, 1, none⟩) (by simp; omega))
        | (go_at_call 47; refine (rlaid_any _ _ (bs, e) (rowF 10 (2 * y)) _ (H.out.below hbw) hsn (by dsimp only; omega)).mono ?_; rintro x w2 ⟨v1, rfl, hs1, hb1, hf1⟩; obtain ⟨ao1, c1', rfl⟩ := hs1.form; have m0 := hb1.cell (p := ⟨w.heap.size, 0, none⟩) (by simp at hz1; simp; omega); have m1 := hb1.cell (p := ⟨w.heap.size, 1, none⟩) (by simp at hz1; simp; omega); have hq2 := (hb1.block (w.heap.size + 1) (by simp at hz1; omega)).trans ((hb.block (w.heap.size + 1) (by simp; omega)).trans Hq.out); obtain ⟨d2, d3⟩ := cell_of_pair hq2; have z1 := free_of_block (o := 0) hq2; have z2 := free_of_block (o := 1) hq2; have HQ := hid hq2; clear hq2))
    have HF := hid (rw_finish (w := w) (e := (laidZ (bs, e) (rowF 10 (2 * y))).2) HQ.out hs1 (hbw.trans (hb1.mono (by simp at hz1; omega))) (by omega) (fresh_mono hf1 (by first | omega | (simp; omega) | (simp at hz1; omega)) (Nat.le_refl _)))
    clear hs1 hb1 hf1 hb hsn hbw k0 k1 m0 m1
    go_wp2
    refine bodyPost_ret (v := .agg #[.slice ao1 (laidZ (bs, e) (rowF 10 (2 * y))).1.length c1', .int .i64 (laidZ (bs, e) (rowF 10 (2 * y))).2]) (by simp [results, Tryz.results75, go_sem, d2, d3]) rfl ?_
    rw [HR.out]
    exact HF.out

end Go.Proofs.YtdnlfacfleemeaaGreat

namespace Go.Proofs.YtdnlfacfleemeaaGreat
open Go.RowKit

theorem fixF_snoc (k : Nat) (v : Int) : fixF (k + 1) v = fixF k v ++ [v / 256 ^ k % 256] := by
  induction k generalizing v with
  | zero => simp [fixF]
  | succ k ih =>
    rw [fixF, ih (v / 256), fixF]
    have e : v / 256 / 256 ^ k = v / 256 ^ (k + 1) := by
      rw [Int.ediv_ediv, if_neg (fun h => absurd h.1 (by omega)), Int.sub_zero, Int.pow_succ, Int.mul_comm]
    rw [e]
    rfl

theorem div_next (v : Int) (k : Nat) : v / 256 ^ k / 256 = v / 256 ^ (k + 1) := by
  have hp : (0 : Int) < 256 ^ k := Int.pow_pos (by omega)
  rw [Int.ediv_ediv, if_neg (fun h => absurd h.1 (by omega)), Int.sub_zero, Int.pow_succ]

end Go.Proofs.YtdnlfacfleemeaaGreat

namespace Go.Proofs.YtdnlfacfleemeaaGreat
open Go.RowKit

theorem fresh_trans {v v1 v0 : Value} {B D : Nat} (h1 : v1 = v0 ∨ ∀ k, v1.ownBlock = some k → B ≤ k ∧ k < D) (h : v = v1 ∨ ∀ k, v.ownBlock = some k → B ≤ k ∧ k < D) : v = v0 ∨ ∀ k, v.ownBlock = some k → B ≤ k ∧ k < D := by
  rcases h with rfl | h
  · exact h1
  · exact .inr h

theorem strBs_take (s : ByteArray) (k : Nat) (h : k < s.size) : (strBs s).take (k + 1) = (strBs s).take k ++ [(s[k].toNat : Int)] := by
  rw [List.take_succ_eq_append_getElem (by rw [strBs_len]; exact h)]
  congr 1
  simp [strBs]
  rfl

theorem laidZ_len (s : List Int × Int) (xs : List Int) : (laidZ s xs).1.length ≤ s.1.length + xs.length := by
  unfold laidZ; split <;> simp
theorem stopZ_len (s : List Int × Int) (e : Int) : (stopZ s e).1.length ≤ s.1.length := by
  unfold stopZ; split <;> simp
theorem rnumZ_len (s : List Int × Int) (v : Int) : (rnumZ s v).1.length ≤ s.1.length + 11 := by
  unfold rnumZ; split
  · have := stopZ_len s 15; omega
  · have := laidZ_len s (rowF 10 v); have := rowF_le 10 v; omega

set_option maxRecDepth 100000 in
set_option maxHeartbeats 800000 in
theorem rtextW_any (v : Value) (t : List Int × Int) (s : ByteArray) (w : World) (h : Sn w v t.1) (hl : t.1.length ≤ 1000000000) (hs : s.size ≤ 1000000000) :
    Calls Tryz.prog 51 #[.agg #[v, .int .i64 t.2], .string s] w fun x w' => RWPost w v (rtextZ t (strBs s)).1 (rtextZ t (strBs s)).2 x w' := by
  obtain ⟨ao, c, rfl⟩ := h.form
  obtain ⟨bs, e⟩ := t
  have H := hid h
  clear h
  dsimp only at hl
  unfold rtextZ
  rw [strBs_len]
  obtain ⟨R, hR⟩ : ∃ R, R = laidZ (rnumZ (bs, e) (s.size : Int)) (strBs s) := ⟨_, rfl⟩
  obtain ⟨R1, hR1⟩ : ∃ R1, R1 = rnumZ (bs, e) (s.size : Int) := ⟨_, rfl⟩
  have hR1l : R1.1.length ≤ bs.length + 11 := by rw [hR1]; exact rnumZ_len _ _
  rw [← hR]
  rw [← hR1] at hR
  have HR := hid hR
  have HR1 := hid hR1
  have hsl := strBs_len s
  have HSL := hid hsl
  clear hR hR1 hsl
  obtain ⟨i0, hi, hz0, hz1, hz2⟩ := info_parts Tryz.info5
  go_enter Tryz.func51, Tryz.ntmps51
  go_wp2
  obtain ⟨Wc, hWc⟩ : ∃ Wc, Wc = (w.alloc (.cells #[.slice ao bs.length c, .int .i64 e] 66)).alloc (.cells #[.slice none 0 0, .int .i64 0] 66) := ⟨_, rfl⟩
  have hb0 : Below w.heap.size w Wc := by rw [hWc]; exact ((Below.refl _ _).alloc (Nat.le_refl _) _).alloc (by simp) _
  have hzc : Wc.heap.size = w.heap.size + 2 := by rw [hWc]; simp
  obtain ⟨hq0, hp0⟩ : Wc.heap[w.heap.size + 1]? = some (.cells #[.slice none 0 0, .int .i64 0] 66 (0, 0)) ∧ Wc.heap[w.heap.size]? = some (.cells #[.slice ao bs.length c, .int .i64 e] 66 (0, 0)) := by rw [hWc]; exact new2 w _ _
  rw [← hWc]
  have Hq := hid hq0
  have Hp := hid hp0
  have hz : w.heap.size + 2 ≤ Wc.heap.size := by omega
  have hz' : Wc.heap.size ≤ w.heap.size + 2 := by omega
  clear hWc hq0 hp0 hzc
  go_loopw [5, 6] (fun b i wr => ∃ (k : Nat), k ≤ s.size ∧ i = .int .i64 k ∧ wr.ownsRow (w.heap.size + 2) 5 1 b ((strBs s).take k).length (B8 ((strBs s).take k)) ∧ Below Wc.heap.size Wc wr)
    (fun _ i _ => s.size - (intOf i).toNat)
  case atStart => exact ⟨0, Nat.zero_le _, rfl, World.ownsRow_nil _ _ _ _, Below.refl _ _⟩
  case round =>
    obtain ⟨k, hk, rfl, hown, hbel⟩ := hrel
    have hzr := hbel.size
    by_cases hlt : k < s.size
    · have hlo := hown.lt
      have hsn := strBs_take s k hlt
      obtain ⟨bb, hbb⟩ : ∃ bb, bb = (strBs s).take k := ⟨_, rfl⟩
      have hlen2 : bb.length ≤ 1000000000 := by rw [hbb, List.length_take]; omega
      rw [← hbb] at hown hsn
      have HS := hid hsn
      clear hbb hsn
      go_wp2_with (at_builtin; refine wpList_append_lies _ rfl _ _ _ rfl (w.heap.size + 2) 5 i0 (.int .u8 0) 1 1 Tryz.underlying39 hi hz0 hz1 hz2 rfl (by omega) _ bb.length (B8 bb) rfl (hown.alloc _) ⟨wr.heap.size, 0, none⟩ 1 1 [.int .u8 (s[k].toNat : Int)] rfl rfl (World.news_of_block (cs := #[.int .u8 (s[k].toNat : Int)]) (t := 5) (fr := (0, 0)) (heap_alloc_new wr _)) (by simp [Value.oneCell']) (by omega) (by unfold maxLen; omega) (by omega) (by simp; omega) (wr.heap.size + 1) (by simp) ?_)
      intro g2 cap w1 hown1 hgrow hat hlt2
      have hb1 : Below Wc.heap.size Wc w1 := (hbel.alloc (by omega) _).grown hgrow (by simp; omega) (fun k hk => by have := (hlo k hk).1; omega)
      have HO := hid hown1
      clear hown1 hgrow hat hown hlo
      go_wp2
      go_roundw
      case rel =>
        refine ⟨k + 1, by omega, by go_num, ?_, hb1⟩
        rw [HS.out]
        have := HO.out
        simpa [B8] using this
      case measure => simp [intOf]; omega
    · obtain rfl : k = s.size := by omega
      rw [List.take_of_length_le (by rw [HSL.out]; omega)] at hown
      have hp1 := (hbel.block _ (by omega)).trans Hp.out
      have hq1 := (hbel.block _ (by omega)).trans Hq.out
      obtain ⟨c0, c1⟩ := cell_of_pair hp1
      have hbw : Below w.heap.size w wr := hb0.trans (hbel.mono (by omega))
      have HS1 := hid (sn_of_owns hown)
      have HSv := hid (H.out.below hbw)
      have HQ := hid hq1
      clear hp1 hq1 hown Hp Hq hbel
      go_wp2_with fail
      refine (rnumW_any _ (bs, e) (s.size : Int) _ HSv.out (by dsimp only; omega) (by omega)).mono ?_
      rw [← HR1.out]
      rintro x w2 ⟨v1, rfl, hs1, hb1, hf1⟩
      obtain ⟨ao1, c1', rfl⟩ := hs1.form
      have HS2 := hid (HS1.out.below hb1)
      have HT := hid hs1
      have hf1' := fresh_mono hf1 (show w.heap.size ≤ wr.heap.size by omega) (Nat.le_refl _)
      have HF1 := hid hf1'
      have hz2 := hb1.size
      have HQ2 := hid ((hb1.block (w.heap.size + 1) (by omega)).trans HQ.out)
      have hbw2 : Below w.heap.size w w2 := hbw.trans (hb1.mono (by omega))
      clear hs1 hb1 hf1 hf1' HS1 HQ hbw
      go_wp2_with fail
      refine (rlaid_any _ _ R1 (strBs s) _ HT.out HS2.out (by rw [HSL.out]; omega)).mono ?_
      rw [← HR.out]
      rintro x w3 ⟨v2, rfl, hs2, hb2, hf2⟩
      obtain ⟨ao2, c2', rfl⟩ := hs2.form
      have hq2 := (hb2.block (w.heap.size + 1) (by omega)).trans HQ2.out
      have HF := hid (rw_finish (w := w) (e := R.2) hq2 hs2 (hbw2.trans (hb2.mono (by omega))) (by omega) (fresh_trans (fresh_mono HF1.out (Nat.le_refl _) hb2.size) (fresh_mono hf2 (by omega) (Nat.le_refl _))))
      obtain ⟨d2, d3⟩ := cell_of_pair hq2
      have z1 := free_of_block (o := 0) hq2
      have z2 := free_of_block (o := 1) hq2
      clear hq2 hs2 hb2 hf2
      go_wp2
      refine bodyPost_ret (v := .agg #[.slice ao2 R.1.length c2', .int .i64 R.2]) (by simp [results, Tryz.results51, go_sem, d2, d3]) rfl ?_
      exact HF.out

end Go.Proofs.YtdnlfacfleemeaaGreat
