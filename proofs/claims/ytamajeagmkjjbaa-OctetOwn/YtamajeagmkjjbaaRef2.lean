import Derived.Test.YtamajeagmkjjbaaRef1
namespace Go.Proofs.Ytamajeagmkjjbaa
open Go.RowKit

/-- A Writer of the document, answered. -/
def RWPost (w : World) (v0 : Value) (bs : List Int) (e : Int) (x : Ending) (w' : World) : Prop := ∃ v, x = .returned (.agg #[v, .int .i64 e]) ∧ Sn w' v bs ∧ Below w.heap.size w w' ∧ (v = v0 ∨ ∀ k, v.ownBlock = some k → w.heap.size ≤ k ∧ k < w'.heap.size)

theorem Sn.form {w : World} {v : Value} {bs : List Int} (h : Sn w v bs) : ∃ ao c, v = .slice ao bs.length c := by
  obtain ⟨⟨ao, cap, rfl, _⟩, _⟩ := h
  exact ⟨_, _, rfl⟩

set_option maxRecDepth 100000 in
set_option maxHeartbeats 1600000 in
theorem rlaid_stop (v vb : Value) (bs : List Int) (e : Int) (w : World) (h : Sn w v bs) (he : e ≠ 0) :
    Calls Try.prog 55 #[.agg #[v, .int .i64 e], vb] w fun x w' => RWPost w v bs e x w' := by
  have he2 : (e != 0) = true := by simpa using he
  obtain ⟨ao, c, rfl⟩ := h.form
  have H := hid h
  clear h he
  go_enter Try.func55, Try.ntmps55
  go_wp2
  refine bodyPost_ret (v := .agg #[.slice ao bs.length c, .int .i64 e]) (by simp [results, Try.results55, go_sem]) rfl ?_
  exact ⟨_, rfl, (H.out.alloc _).alloc _, ((Below.refl _ _).alloc (Nat.le_refl _) _).alloc (by simp) _, .inl rfl⟩

set_option maxRecDepth 100000 in
set_option maxHeartbeats 1600000 in
theorem rlaid_ok (v vb : Value) (bs xs : List Int) (w : World) (h : Sn w v bs) (hb : Sn w vb xs) (hl : bs.length + xs.length ≤ 10000000000) :
    Calls Try.prog 55 #[.agg #[v, .int .i64 0], vb] w fun x w' => RWPost w v (bs ++ xs) 0 x w' := by
  obtain ⟨ao, c, rfl⟩ := h.form
  have H := hid h
  have HB := hid hb
  clear h hb
  go_enter Try.func55, Try.ntmps55
  go_wp2_with (at_builtin; refine wpList_append_sn _ rfl (.tmp 10) (.tmp 12) rfl (w.heap.size + 2) (.slice none 0 0) 0 [] rfl (World.ownsRow_nil _ _ _ _) _ bs rfl ((H.out.alloc _).alloc _) (by omega) (by simp) ?_)
  intro ao1 c1 w1 ho1 hg1
  have hz1 := hg1.size
  have q0 : w1.heap[w.heap.size]? = some (.cells #[.slice ao bs.length c, .int .i64 0] 31 (0, 0)) := by
    rw [hg1.block _ (by simp; omega) (by simp [Value.ownBlock]), Below.heap_alloc _ _ _ (by simp)]
    exact heap_alloc_new w _
  have q1 : w1.heap[w.heap.size + 1]? = some (.cells #[.slice none 0 0, .int .i64 0] 31 (0, 0)) := by
    rw [hg1.block _ (by simp) (by simp [Value.ownBlock])]
    have := heap_alloc_new (w.alloc (.cells #[.slice ao bs.length c, .int .i64 0] 31)) (.cells #[.slice none 0 0, .int .i64 0] 31)
    simpa using this
  have hbel : Below w.heap.size w w1 := (((Below.refl _ _).alloc (Nat.le_refl _) _).alloc (by simp) _).grown hg1 (by simp; omega) (by intro k hk; simp [Value.ownBlock] at hk)
  have Q0 := hid q0
  have Q1 := hid q1
  have HB1 := hid (HB.out.below hbel)
  simp at hz1
  clear q0 q1 hg1 HB H
  go_wp2_with (at_builtin; refine wpList_append_sn _ rfl (.tmp 14) (.tmp 15) rfl (w.heap.size + 2) _ bs.length bs rfl ho1 _ xs rfl HB1.out (by omega) (by omega) ?_)
  intro ao2 c2 w2 ho2 hg2
  have hlo := ho1.lt
  have r0 : w2.heap[w.heap.size]? = some (.cells #[.slice ao bs.length c, .int .i64 0] 31 (0, 0)) := by
    rw [hg2.block _ (by omega) (fun h => by have := hlo _ h.symm; omega)]
    exact Q0.out
  have r1 : w2.heap[w.heap.size + 1]? = some (.cells #[.slice none 0 0, .int .i64 0] 31 (0, 0)) := by
    rw [hg2.block _ (by omega) (fun h => by have := hlo _ h.symm; omega)]
    exact Q1.out
  have hb2 : Below w.heap.size w w2 := hbel.grown hg2 (by omega) (fun k hk => by have := hlo k hk; omega)
  obtain ⟨d0, d1⟩ := cell_of_pair r0
  obtain ⟨d2, d3⟩ := cell_of_pair r1
  have z0 := free_of_block (o := 0) r0
  have z1 := free_of_block (o := 0) r1
  have z2 := free_of_block (o := 1) r1
  have HO := hid ho2
  have hne : (w.heap.size : Nat) ≠ w.heap.size + 1 := by omega
  clear hg2 ho1 ho2 hlo Q0 Q1 HB1 hbel r0 r1
  go_wp2
  have hk : Kept (fun k => k = w.heap.size ∨ k = w.heap.size + 1) w2 (((w2.setCell ⟨w.heap.size, 0, none⟩ (.slice ao2 (bs.length + xs.length) c2)).setCell ⟨w.heap.size + 1, 0, none⟩ (.slice ao2 (bs.length + xs.length) c2)).setCell ⟨w.heap.size + 1, 1, none⟩ (.int .i64 0)) :=
    (((Kept.refl (fun k => k = w.heap.size ∨ k = w.heap.size + 1) w2).setCell (fun _ => .inl rfl) _).setCell (fun _ => .inr rfl) _).setCell (fun _ => .inr rfl) _
  have ho3 : w2.ownsRow (w.heap.size + 2) 5 1 (.slice ao2 (bs.length + xs.length) c2) (bs.length + xs.length) (B8 (bs ++ xs)) := by
    have := HO.out
    simpa [B8] using this
  refine bodyPost_ret (v := .agg #[.slice ao2 (bs.length + xs.length) c2, .int .i64 0]) (by simp [results, Try.results55, go_sem, d2, d3]) rfl ?_
  refine ⟨_, rfl, ?_, ?_, .inr (fun k hk2 => by have h1 := ho3.lt k hk2; have h2 := hk.size; omega)⟩
  · exact (sn_of_owns ho3).kept hk (fun k h1 h2 => by have := ho3.lt k h1; omega)
  · exact ((hb2.setCell (Nat.le_refl _) _).setCell (by simp) _).setCell (by simp) _

end Go.Proofs.Ytamajeagmkjjbaa
