import Derived.Test.YtkalppcekmlgbabVpPa
namespace Go.Proofs.Ytkalppcekmlgbab.Vp
open Go.RowKit

/-- A node's block. -/
abbrev Nd (w : World) (b : Nat) (k : ByteArray) (v p q h : Value) : Prop := w.heap[b]? = some (.cells #[.string k, v, p, q, h] 81 (0, 0))

set_option maxRecDepth 100000 in
set_option maxHeartbeats 800000 in
theorem tall_any (t : Tr) (w : World) (h : t.At 81 w) : Calls Try.prog 71 #[t.ptr] w fun x w' => x = .returned (.int .i64 t.ht) ∧ w' = w := by
  cases t with
  | nil =>
    simp only [Tr.ptr, Tr.addr, Tr.ht]
    go_enter Try.func71, Try.ntmps71
    go_wp2
    go_ret
    exact ⟨rfl, rfl⟩
  | node b k v l r =>
    obtain ⟨-, -, -, -, c4⟩ := cells5 h.1
    have e : ((Tr.node b k v l r).ht : Int) = 1 + max (l.ht : Int) r.ht := by simp only [Tr.ht]; omega
    rw [e]
    simp only [Tr.ptr, Tr.addr]
    clear h e
    go_enter Try.func71, Try.ntmps71
    go_wp2
    go_ret
    exact ⟨rfl, rfl⟩

set_option maxRecDepth 100000 in
set_option maxHeartbeats 800000 in
theorem measure_any (b : Nat) (k : ByteArray) (v : Value) (h0 : Int) (l r : Tr) (w : World) (hb : Nd w b k v l.ptr r.ptr (.int .i64 h0)) (hl : l.At 81 w) (hr : r.At 81 w) (nl : l.ht ≤ 1000000) (nr : r.ht ≤ 1000000) :
    Calls Try.prog 70 #[.pointer (some ⟨b, 0, none⟩)] w fun x w' => x = .returned (.tuple #[]) ∧ Nd w' b k v l.ptr r.ptr (.int .i64 (1 + max (l.ht : Int) r.ht)) ∧ Kept (fun i => i = b) w w' := by
  obtain ⟨-, -, c2, c3, c4⟩ := cells5 hb
  have ff : ∀ o, w.frozen? ⟨b, o, none⟩ = false := fun o => free_of_block hb
  have HB := hid hb
  have HL := hid hl
  have HR := hid hr
  simp only [Tr.ptr] at *
  generalize hpl : l.addr = pl at *
  generalize hpr : r.addr = pr at *
  have T1 := hid (show ∀ W : World, W.heap = w.heap → Calls Try.prog 71 #[.pointer pl] W fun x w' => x = .returned (.int .i64 l.ht) ∧ w' = W from fun W hW => by rw [← hpl]; exact tall_any l W (Tr.At.heap hW hl))
  have T2 := hid (show ∀ W : World, W.heap = w.heap → Calls Try.prog 71 #[.pointer pr] W fun x w' => x = .returned (.int .i64 r.ht) ∧ w' = W from fun W hW => by rw [← hpr]; exact tall_any r W (Tr.At.heap hW hr))
  generalize hml : l.ht = ml at *
  generalize hmr : r.ht = mr at *
  clear hb hl hr hpl hpr hml hmr HL HR
  obtain ⟨M, hM⟩ : ∃ M, max (ml : Int) mr = M := ⟨_, rfl⟩
  have hM0 : 0 ≤ M := by omega
  have hM1 : M ≤ 1000000 := by omega
  rw [hM]
  have hM2 : (if ml < mr then (mr : Int) else ml) = M := by split <;> omega
  have hM3 : IntKind.i64.wrap (1 + M) = 1 + M := by rw [IntKind.wrap_i64]; omega
  clear nl nr
  go_enter Try.func70, Try.ntmps70
  go_wp2
  go_region_held3 (fun w' => w'.cell? ⟨b, 2, none⟩ = some (.pointer pl) ∧ w'.cell? ⟨b, 3, none⟩ = some (.pointer pr)) (first | (simp only [dw_cell, cs_off (show (4 : Nat) ≠ 2 by decide), cs_off (show (4 : Nat) ≠ 3 by decide), c2, c3, and_self]; done) | go_keep) (first
    | (go_at_call 71
       with_reducible show Calls _ _ #[.pointer pl] _ _
       refine (T1.out w.drew rfl).mono ?_
       rintro e w1 ⟨rfl, e1⟩
       rw [e1]
       clear e1 w1 T1)
    | (go_at_call 71
       refine (T2.out w.drew rfl).mono ?_
       rintro e w1 ⟨rfl, e1⟩
       rw [e1]
       clear e1 w1 T2))
  go_end0
  exact ⟨rfl, set_block (i := 4) HB.out _, ((Kept.refl (fun i => i = b) w).setCell (p := ⟨b, 4, none⟩) (fun _ => rfl) _).drew⟩

set_option maxRecDepth 100000 in
set_option maxHeartbeats 800000 in
theorem lowUp_any (b tb : Nat) (k tk : ByteArray) (v tv : Value) (h0 h1 : Int) (o m r : Tr) (w : World) (hb : Nd w b k v (.pointer (some ⟨tb, 0, none⟩)) r.ptr (.int .i64 h0)) (ht : Nd w tb tk tv o.ptr m.ptr (.int .i64 h1)) (ho : o.At 81 w) (hm : m.At 81 w) (hr : r.At 81 w)
    (hne : b ≠ tb) (hn : ∀ i, i ∈ o.bs ∨ i ∈ m.bs ∨ i ∈ r.bs → i ≠ b ∧ i ≠ tb) (no : o.ht ≤ 900000) (nm : m.ht ≤ 900000) (nr : r.ht ≤ 900000) :
    Calls Try.prog 73 #[.pointer (some ⟨b, 0, none⟩)] w fun x w' => x = .returned (.pointer (some ⟨tb, 0, none⟩)) ∧ (Tr.node tb tk tv o (Tr.node b k v m r)).At 81 w' ∧ Kept (fun i => i = b ∨ i = tb) w w' := by
  obtain ⟨-, -, c2, c3, c4⟩ := cells5 hb
  obtain ⟨-, -, d2, d3, d4⟩ := cells5 ht
  have ff : ∀ o, w.frozen? ⟨b, o, none⟩ = false := fun o => free_of_block hb
  have fg : ∀ o, w.frozen? ⟨tb, o, none⟩ = false := fun o => free_of_block ht
  have hne' : tb ≠ b := fun e => hne e.symm
  obtain ⟨W1, hW1⟩ : ∃ W1, W1 = (w.setCell ⟨b, 2, none⟩ m.ptr).setCell ⟨tb, 3, none⟩ (.pointer (some ⟨b, 0, none⟩)) := ⟨_, rfl⟩
  have K1 : Kept (fun i => i = b ∨ i = tb) w W1 := by
    rw [hW1]
    exact ((Kept.refl (fun i => i = b ∨ i = tb) w).setCell (p := ⟨b, 2, none⟩) (fun _ => .inl rfl) _).setCell (p := ⟨tb, 3, none⟩) (fun _ => .inr rfl) _
  have B1 : Nd W1 b k v m.ptr r.ptr (.int .i64 h0) := by rw [hW1]; exact hp_set (set_block (i := 2) hb _) hne _
  have B2 : Nd W1 tb tk tv o.ptr (.pointer (some ⟨b, 0, none⟩)) (.int .i64 h1) := by rw [hW1]; exact set_block (i := 3) (hp_set ht hne' _) _
  have hm' := hm.kept K1 (fun i hi e => by have := hn i (.inr (.inl hi)); omega)
  have hr' := hr.kept K1 (fun i hi e => by have := hn i (.inr (.inr hi)); omega)
  have ho' := ho.kept K1 (fun i hi e => by have := hn i (.inl hi); omega)
  have M1 := hid (measure_any b k v h0 m r W1 B1 hm' hr' (by omega) (by omega))
  have HH := hid (And.intro K1 (And.intro B1 (And.intro B2 (And.intro hm' (And.intro hr' ho')))))
  have MK := hid (show ∀ w2, Nd w2 b k v m.ptr r.ptr (.int .i64 (1 + max (m.ht : Int) r.ht)) → Kept (fun i => i = b) W1 w2 → Hid (Calls Try.prog 70 #[.pointer (some ⟨tb, 0, none⟩)] w2 fun x w' => x = .returned (.tuple #[]) ∧ Nd w' tb tk tv o.ptr (.pointer (some ⟨b, 0, none⟩)) (.int .i64 (1 + max (o.ht : Int) (Tr.node b k v m r).ht)) ∧ Kept (fun i => i = tb) w2 w') ∧ Hid ((Tr.node b k v m r).At 81 w2) ∧ Hid (o.At 81 w2) ∧ Hid (Kept (fun i => i = b ∨ i = tb) w w2) from by
    intro w2 n1 k1
    obtain ⟨K1, B1, B2, hm', hr', ho'⟩ := HH.out
    have a1 : (Tr.node b k v m r).At 81 w2 := ⟨n1, hm'.kept k1 (fun i hi e => (hn i (.inr (.inl hi))).1 e), hr'.kept k1 (fun i hi e => (hn i (.inr (.inr hi))).1 e)⟩
    have a2 : o.At 81 w2 := ho'.kept k1 (fun i hi e => (hn i (.inl hi)).1 e)
    have a3 : Nd w2 tb tk tv o.ptr (.pointer (some ⟨b, 0, none⟩)) (.int .i64 h1) := hp_kept B2 k1 hne'
    exact (And.intro (hid (measure_any tb tk tv h1 o (Tr.node b k v m r) w2 a3 a2 a1 (by first | omega | (simp only [Tr.ht]; omega)) (by first | omega | (simp only [Tr.ht]; omega)))) (And.intro (hid a1) (And.intro (hid a2) (hid (K1.trans k1 (fun i _ e => .inl e)))))))
  clear hb ht ho hm hr K1 B1 B2 hm' hr' ho' HH
  have HW := hid hW1
  clear hW1
  go_enter Try.func73, Try.ntmps73
  go_upto_region 3 with (fail)
  rw [← HW.out]
  go_wp2_with (first
    | (go_at_call 70
       refine M1.out.mono ?_
       rintro e w2 ⟨rfl, n1, k1⟩
       obtain ⟨M2, A1, A2, KK⟩ := MK.out w2 n1 k1
       clear M1 n1 k1)
    | (go_at_call 70
       refine M2.out.mono ?_
       rintro e w3 ⟨rfl, n2, k2⟩
       have HN := hid (And.intro n2 k2)
       clear M2 n2 k2))
  go_ret
  obtain ⟨n2, k2⟩ := HN.out
  have q1 : (Tr.node b k v m r).At 81 w3 := A1.out.kept k2 (fun i hi e => by
    rw [Tr.bs_node] at hi
    simp only [List.mem_append, List.mem_cons] at hi
    rcases hi with hi | hi | hi
    · exact (hn i (by simp [hi])).2 e
    · omega
    · exact (hn i (by simp [hi])).2 e)
  have q2 : o.At 81 w3 := A2.out.kept k2 (fun i hi e => (hn i (.inl hi)).2 e)
  exact ⟨rfl, ⟨n2, q2, q1⟩, KK.out.trans k2 (fun i _ e => .inr e)⟩

set_option maxRecDepth 100000 in
set_option maxHeartbeats 800000 in
theorem highUp_any (b tb : Nat) (k tk : ByteArray) (v tv : Value) (h0 h1 : Int) (o m r : Tr) (w : World) (hb : Nd w b k v r.ptr (.pointer (some ⟨tb, 0, none⟩)) (.int .i64 h0)) (ht : Nd w tb tk tv m.ptr o.ptr (.int .i64 h1)) (ho : o.At 81 w) (hm : m.At 81 w) (hr : r.At 81 w)
    (hne : b ≠ tb) (hn : ∀ i, i ∈ o.bs ∨ i ∈ m.bs ∨ i ∈ r.bs → i ≠ b ∧ i ≠ tb) (no : o.ht ≤ 900000) (nm : m.ht ≤ 900000) (nr : r.ht ≤ 900000) :
    Calls Try.prog 72 #[.pointer (some ⟨b, 0, none⟩)] w fun x w' => x = .returned (.pointer (some ⟨tb, 0, none⟩)) ∧ (Tr.node tb tk tv (Tr.node b k v r m) o).At 81 w' ∧ Kept (fun i => i = b ∨ i = tb) w w' := by
  obtain ⟨-, -, c2, c3, c4⟩ := cells5 hb
  obtain ⟨-, -, d2, d3, d4⟩ := cells5 ht
  have ff : ∀ o, w.frozen? ⟨b, o, none⟩ = false := fun o => free_of_block hb
  have fg : ∀ o, w.frozen? ⟨tb, o, none⟩ = false := fun o => free_of_block ht
  have hne' : tb ≠ b := fun e => hne e.symm
  obtain ⟨W1, hW1⟩ : ∃ W1, W1 = (w.setCell ⟨b, 3, none⟩ m.ptr).setCell ⟨tb, 2, none⟩ (.pointer (some ⟨b, 0, none⟩)) := ⟨_, rfl⟩
  have K1 : Kept (fun i => i = b ∨ i = tb) w W1 := by
    rw [hW1]
    exact ((Kept.refl (fun i => i = b ∨ i = tb) w).setCell (p := ⟨b, 3, none⟩) (fun _ => .inl rfl) _).setCell (p := ⟨tb, 2, none⟩) (fun _ => .inr rfl) _
  have B1 : Nd W1 b k v r.ptr m.ptr (.int .i64 h0) := by rw [hW1]; exact hp_set (set_block (i := 3) hb _) hne _
  have B2 : Nd W1 tb tk tv (.pointer (some ⟨b, 0, none⟩)) o.ptr (.int .i64 h1) := by rw [hW1]; exact set_block (i := 2) (hp_set ht hne' _) _
  have hm' := hm.kept K1 (fun i hi e => by have := hn i (.inr (.inl hi)); omega)
  have hr' := hr.kept K1 (fun i hi e => by have := hn i (.inr (.inr hi)); omega)
  have ho' := ho.kept K1 (fun i hi e => by have := hn i (.inl hi); omega)
  have M1 := hid (measure_any b k v h0 r m W1 B1 hr' hm' (by omega) (by omega))
  have HH := hid (And.intro K1 (And.intro B1 (And.intro B2 (And.intro hm' (And.intro hr' ho')))))
  have MK := hid (show ∀ w2, Nd w2 b k v r.ptr m.ptr (.int .i64 (1 + max (r.ht : Int) m.ht)) → Kept (fun i => i = b) W1 w2 → Hid (Calls Try.prog 70 #[.pointer (some ⟨tb, 0, none⟩)] w2 fun x w' => x = .returned (.tuple #[]) ∧ Nd w' tb tk tv (.pointer (some ⟨b, 0, none⟩)) o.ptr (.int .i64 (1 + max ((Tr.node b k v r m).ht : Int) o.ht)) ∧ Kept (fun i => i = tb) w2 w') ∧ Hid ((Tr.node b k v r m).At 81 w2) ∧ Hid (o.At 81 w2) ∧ Hid (Kept (fun i => i = b ∨ i = tb) w w2) from by
    intro w2 n1 k1
    obtain ⟨K1, B1, B2, hm', hr', ho'⟩ := HH.out
    have a1 : (Tr.node b k v r m).At 81 w2 := ⟨n1, hr'.kept k1 (fun i hi e => (hn i (.inr (.inr hi))).1 e), hm'.kept k1 (fun i hi e => (hn i (.inr (.inl hi))).1 e)⟩
    have a2 : o.At 81 w2 := ho'.kept k1 (fun i hi e => (hn i (.inl hi)).1 e)
    have a3 : Nd w2 tb tk tv (.pointer (some ⟨b, 0, none⟩)) o.ptr (.int .i64 h1) := hp_kept B2 k1 hne'
    exact (And.intro (hid (measure_any tb tk tv h1 (Tr.node b k v r m) o w2 a3 a1 a2 (by first | omega | (simp only [Tr.ht]; omega)) (by first | omega | (simp only [Tr.ht]; omega)))) (And.intro (hid a1) (And.intro (hid a2) (hid (K1.trans k1 (fun i _ e => .inl e)))))))
  clear hb ht ho hm hr K1 B1 B2 hm' hr' ho' HH
  have HW := hid hW1
  clear hW1
  go_enter Try.func72, Try.ntmps72
  go_upto_region 3 with (fail)
  rw [← HW.out]
  go_wp2_with (first
    | (go_at_call 70
       refine M1.out.mono ?_
       rintro e w2 ⟨rfl, n1, k1⟩
       obtain ⟨M2, A1, A2, KK⟩ := MK.out w2 n1 k1
       clear M1 n1 k1)
    | (go_at_call 70
       refine M2.out.mono ?_
       rintro e w3 ⟨rfl, n2, k2⟩
       have HN := hid (And.intro n2 k2)
       clear M2 n2 k2))
  go_ret
  obtain ⟨n2, k2⟩ := HN.out
  have q1 : (Tr.node b k v r m).At 81 w3 := A1.out.kept k2 (fun i hi e => by
    rw [Tr.bs_node] at hi
    simp only [List.mem_append, List.mem_cons] at hi
    rcases hi with hi | hi | hi
    · exact (hn i (by simp [hi])).2 e
    · omega
    · exact (hn i (by simp [hi])).2 e)
  have q2 : o.At 81 w3 := A2.out.kept k2 (fun i hi e => (hn i (.inl hi)).2 e)
  exact ⟨rfl, ⟨n2, q1, q2⟩, KK.out.trans k2 (fun i _ e => .inr e)⟩

end Go.Proofs.Ytkalppcekmlgbab.Vp
