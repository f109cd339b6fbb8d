import Derived.Test.YthcoigbkdbkojaaGreatK03
namespace Go.Proofs.YthcoigbkdbkojaaGreat.V
open Go.RowKit

/-- A node's block. -/
abbrev Nd (w : World) (b : Nat) (k : ByteArray) (v p q h : Value) : Prop := w.heap[b]? = some (.cells #[.string k, v, p, q, h] 145 (0, 0))

set_option maxRecDepth 100000 in
set_option maxHeartbeats 800000 in
theorem tall_any (t : Tr) (w : World) (h : t.At 145 w) : Calls Tryz.prog 152 #[t.ptr] w fun x w' => x = .returned (.int .i64 t.ht) ∧ w' = w := by
  cases t with
  | nil =>
    simp only [Tr.ptr, Tr.addr, Tr.ht]
    go_enter Tryz.func152, Tryz.ntmps152
    go_wp2
    go_ret
    exact ⟨rfl, rfl⟩
  | node b k v l r =>
    obtain ⟨-, -, -, -, c4⟩ := cells5 h.1
    have e : ((Tr.node b k v l r).ht : Int) = 1 + max (l.ht : Int) r.ht := by simp only [Tr.ht]; omega
    rw [e]
    simp only [Tr.ptr, Tr.addr]
    clear h e
    go_enter Tryz.func152, Tryz.ntmps152
    go_wp2
    go_ret
    exact ⟨rfl, rfl⟩

set_option maxRecDepth 100000 in
set_option maxHeartbeats 800000 in
theorem measure_any (b : Nat) (k : ByteArray) (v : Value) (h0 : Int) (l r : Tr) (w : World) (hb : Nd w b k v l.ptr r.ptr (.int .i64 h0)) (hl : l.At 145 w) (hr : r.At 145 w) (nl : l.ht ≤ 1000000) (nr : r.ht ≤ 1000000) :
    Calls Tryz.prog 151 #[.pointer (some ⟨b, 0, none⟩)] w fun x w' => x = .returned (.tuple #[]) ∧ Nd w' b k v l.ptr r.ptr (.int .i64 (1 + max (l.ht : Int) r.ht)) ∧ Kept (fun i => i = b) w w' := by
  obtain ⟨-, -, c2, c3, c4⟩ := cells5 hb
  have ff : ∀ o, w.frozen? ⟨b, o, none⟩ = false := fun o => free_of_block hb
  have HB := hid hb
  have HL := hid hl
  have HR := hid hr
  simp only [Tr.ptr] at *
  generalize hpl : l.addr = pl at *
  generalize hpr : r.addr = pr at *
  have T1 := hid (show ∀ W : World, W.heap = w.heap → Calls Tryz.prog 152 #[.pointer pl] W fun x w' => x = .returned (.int .i64 l.ht) ∧ w' = W from fun W hW => by rw [← hpl]; exact tall_any l W (Tr.At.heap hW hl))
  have T2 := hid (show ∀ W : World, W.heap = w.heap → Calls Tryz.prog 152 #[.pointer pr] W fun x w' => x = .returned (.int .i64 r.ht) ∧ w' = W from fun W hW => by rw [← hpr]; exact tall_any r W (Tr.At.heap hW hr))
  generalize hml : l.ht = ml at *
  generalize hmr : r.ht = mr at *
  clear hb hl hr hpl hpr hml hmr HL HR
  obtain ⟨M, hM⟩ : ∃ M, max (ml : Int) mr = M := ⟨_, rfl⟩
  have hM0 : 0 ≤ M := by omega
  have hM1 : M ≤ 1000000 := by omega
  rw [hM]
  have hM2 : (if ml < mr then (mr : Int) else ml) = M := by split <;> omega
  have hM3 : IntKind.i64.wrap (1 + M) = 1 + M := by rw [IntKind.wrap_i64]; omega
  clear nl nr
  go_enter Tryz.func151, Tryz.ntmps151
  go_wp2
  go_region_held3 (fun w' => w'.cell? ⟨b, 2, none⟩ = some (.pointer pl) ∧ w'.cell? ⟨b, 3, none⟩ = some (.pointer pr)) (first | (simp only [dw_cell, cs_off (show (4 : Nat) ≠ 2 by decide), cs_off (show (4 : Nat) ≠ 3 by decide), c2, c3, and_self]; done) | go_keep) (first
    | (go_at_call 152
       with_reducible show Calls _ _ #[.pointer pl] _ _
       refine (T1.out w.drew rfl).mono ?_
       rintro e w1 ⟨rfl, e1⟩
       rw [e1]
       clear e1 w1 T1)
    | (go_at_call 152
       refine (T2.out w.drew rfl).mono ?_
       rintro e w1 ⟨rfl, e1⟩
       rw [e1]
       clear e1 w1 T2))
  go_end0
  exact ⟨rfl, set_block (i := 4) HB.out _, ((Kept.refl (fun i => i = b) w).setCell (p := ⟨b, 4, none⟩) (fun _ => rfl) _).drew⟩

set_option maxRecDepth 100000 in
set_option maxHeartbeats 800000 in
theorem lowUp_any (b tb : Nat) (k tk : ByteArray) (v tv : Value) (h0 h1 : Int) (o m r : Tr) (w : World) (hb : Nd w b k v (.pointer (some ⟨tb, 0, none⟩)) r.ptr (.int .i64 h0)) (ht : Nd w tb tk tv o.ptr m.ptr (.int .i64 h1)) (ho : o.At 145 w) (hm : m.At 145 w) (hr : r.At 145 w)
    (hne : b ≠ tb) (hn : ∀ i, i ∈ o.bs ∨ i ∈ m.bs ∨ i ∈ r.bs → i ≠ b ∧ i ≠ tb) (no : o.ht ≤ 900000) (nm : m.ht ≤ 900000) (nr : r.ht ≤ 900000) :
    Calls Tryz.prog 154 #[.pointer (some ⟨b, 0, none⟩)] w fun x w' => x = .returned (.pointer (some ⟨tb, 0, none⟩)) ∧ (Tr.node tb tk tv o (Tr.node b k v m r)).At 145 w' ∧ Kept (fun i => i = b ∨ i = tb) w w' := by
  obtain ⟨-, -, c2, c3, c4⟩ := cells5 hb
  obtain ⟨-, -, d2, d3, d4⟩ := cells5 ht
  have ff : ∀ o, w.frozen? ⟨b, o, none⟩ = false := fun o => free_of_block hb
  have fg : ∀ o, w.frozen? ⟨tb, o, none⟩ = false := fun o => free_of_block ht
  have hne' : tb ≠ b := fun e => hne e.symm
  obtain ⟨W1, hW1⟩ : ∃ W1, W1 = (w.setCell ⟨b, 2, none⟩ m.ptr).setCell ⟨tb, 3, none⟩ (.pointer (some ⟨b, 0, none⟩)) := ⟨_, rfl⟩
  have K1 : Kept (fun i => i = b ∨ i = tb) w W1 := by
    rw [hW1]
    exact ((Kept.refl (fun i => i = b ∨ i = tb) w).setCell (p := ⟨b, 2, none⟩) (fun _ => .inl rfl) _).setCell (p := ⟨tb, 3, none⟩) (fun _ => .inr rfl) _
  have B1 : Nd W1 b k v m.ptr r.ptr (.int .i64 h0) := by rw [hW1]; exact hp_set (set_block (i := 2) hb _) hne _
  have B2 : Nd W1 tb tk tv o.ptr (.pointer (some ⟨b, 0, none⟩)) (.int .i64 h1) := by rw [hW1]; exact set_block (i := 3) (hp_set ht hne' _) _
  have hm' := hm.kept K1 (fun i hi e => by have := hn i (.inr (.inl hi)); omega)
  have hr' := hr.kept K1 (fun i hi e => by have := hn i (.inr (.inr hi)); omega)
  have ho' := ho.kept K1 (fun i hi e => by have := hn i (.inl hi); omega)
  have M1 := hid (measure_any b k v h0 m r W1 B1 hm' hr' (by omega) (by omega))
  have HH := hid (And.intro K1 (And.intro B1 (And.intro B2 (And.intro hm' (And.intro hr' ho')))))
  have MK := hid (show ∀ w2, Nd w2 b k v m.ptr r.ptr (.int .i64 (1 + max (m.ht : Int) r.ht)) → Kept (fun i => i = b) W1 w2 → Hid (Calls Tryz.prog 151 #[.pointer (some ⟨tb, 0, none⟩)] w2 fun x w' => x = .returned (.tuple #[]) ∧ Nd w' tb tk tv o.ptr (.pointer (some ⟨b, 0, none⟩)) (.int .i64 (1 + max (o.ht : Int) (Tr.node b k v m r).ht)) ∧ Kept (fun i => i = tb) w2 w') ∧ Hid ((Tr.node b k v m r).At 145 w2) ∧ Hid (o.At 145 w2) ∧ Hid (Kept (fun i => i = b ∨ i = tb) w w2) from by
    intro w2 n1 k1
    obtain ⟨K1, B1, B2, hm', hr', ho'⟩ := HH.out
    have a1 : (Tr.node b k v m r).At 145 w2 := ⟨n1, hm'.kept k1 (fun i hi e => (hn i (.inr (.inl hi))).1 e), hr'.kept k1 (fun i hi e => (hn i (.inr (.inr hi))).1 e)⟩
    have a2 : o.At 145 w2 := ho'.kept k1 (fun i hi e => (hn i (.inl hi)).1 e)
    have a3 : Nd w2 tb tk tv o.ptr (.pointer (some ⟨b, 0, none⟩)) (.int .i64 h1) := hp_kept B2 k1 hne'
    exact (And.intro (hid (measure_any tb tk tv h1 o (Tr.node b k v m r) w2 a3 a2 a1 (by first | omega | (simp only [Tr.ht]; omega)) (by first | omega | (simp only [Tr.ht]; omega)))) (And.intro (hid a1) (And.intro (hid a2) (hid (K1.trans k1 (fun i _ e => .inl e)))))))
  clear hb ht ho hm hr K1 B1 B2 hm' hr' ho' HH
  have HW := hid hW1
  clear hW1
  go_enter Tryz.func154, Tryz.ntmps154
  go_upto_region 3 with (fail)
  rw [← HW.out]
  go_wp2_with (first
    | (go_at_call 151
       refine M1.out.mono ?_
       rintro e w2 ⟨rfl, n1, k1⟩
       obtain ⟨M2, A1, A2, KK⟩ := MK.out w2 n1 k1
       clear M1 n1 k1)
    | (go_at_call 151
       refine M2.out.mono ?_
       rintro e w3 ⟨rfl, n2, k2⟩
       have HN := hid (And.intro n2 k2)
       clear M2 n2 k2))
  go_ret
  obtain ⟨n2, k2⟩ := HN.out
  have q1 : (Tr.node b k v m r).At 145 w3 := A1.out.kept k2 (fun i hi e => by
    rw [Tr.bs_node] at hi
    simp only [List.mem_append, List.mem_cons] at hi
    rcases hi with hi | hi | hi
    · exact (hn i (by simp [hi])).2 e
    · omega
    · exact (hn i (by simp [hi])).2 e)
  have q2 : o.At 145 w3 := A2.out.kept k2 (fun i hi e => (hn i (.inl hi)).2 e)
  exact ⟨rfl, ⟨n2, q2, q1⟩, KK.out.trans k2 (fun i _ e => .inr e)⟩

set_option maxRecDepth 100000 in
set_option maxHeartbeats 800000 in
theorem highUp_any (b tb : Nat) (k tk : ByteArray) (v tv : Value) (h0 h1 : Int) (o m r : Tr) (w : World) (hb : Nd w b k v r.ptr (.pointer (some ⟨tb, 0, none⟩)) (.int .i64 h0)) (ht : Nd w tb tk tv m.ptr o.ptr (.int .i64 h1)) (ho : o.At 145 w) (hm : m.At 145 w) (hr : r.At 145 w)
    (hne : b ≠ tb) (hn : ∀ i, i ∈ o.bs ∨ i ∈ m.bs ∨ i ∈ r.bs → i ≠ b ∧ i ≠ tb) (no : o.ht ≤ 900000) (nm : m.ht ≤ 900000) (nr : r.ht ≤ 900000) :
    Calls Tryz.prog 153 #[.pointer (some ⟨b, 0, none⟩)] w fun x w' => x = .returned (.pointer (some ⟨tb, 0, none⟩)) ∧ (Tr.node tb tk tv (Tr.node b k v r m) o).At 145 w' ∧ Kept (fun i => i = b ∨ i = tb) w w' := by
  obtain ⟨-, -, c2, c3, c4⟩ := cells5 hb
  obtain ⟨-, -, d2, d3, d4⟩ := cells5 ht
  have ff : ∀ o, w.frozen? ⟨b, o, none⟩ = false := fun o => free_of_block hb
  have fg : ∀ o, w.frozen? ⟨tb, o, none⟩ = false := fun o => free_of_block ht
  have hne' : tb ≠ b := fun e => hne e.symm
  obtain ⟨W1, hW1⟩ : ∃ W1, W1 = (w.setCell ⟨b, 3, none⟩ m.ptr).setCell ⟨tb, 2, none⟩ (.pointer (some ⟨b, 0, none⟩)) := ⟨_, rfl⟩
  have K1 : Kept (fun i => i = b ∨ i = tb) w W1 := by
    rw [hW1]
    exact ((Kept.refl (fun i => i = b ∨ i = tb) w).setCell (p := ⟨b, 3, none⟩) (fun _ => .inl rfl) _).setCell (p := ⟨tb, 2, none⟩) (fun _ => .inr rfl) _
  have B1 : Nd W1 b k v r.ptr m.ptr (.int .i64 h0) := by rw [hW1]; exact hp_set (set_block (i := 3) hb _) hne _
  have B2 : Nd W1 tb tk tv (.pointer (some ⟨b, 0, none⟩)) o.ptr (.int .i64 h1) := by rw [hW1]; exact set_block (i := 2) (hp_set ht hne' _) _
  have hm' := hm.kept K1 (fun i hi e => by have := hn i (.inr (.inl hi)); omega)
  have hr' := hr.kept K1 (fun i hi e => by have := hn i (.inr (.inr hi)); omega)
  have ho' := ho.kept K1 (fun i hi e => by have := hn i (.inl hi); omega)
  have M1 := hid (measure_any b k v h0 r m W1 B1 hr' hm' (by omega) (by omega))
  have HH := hid (And.intro K1 (And.intro B1 (And.intro B2 (And.intro hm' (And.intro hr' ho')))))
  have MK := hid (show ∀ w2, Nd w2 b k v r.ptr m.ptr (.int .i64 (1 + max (r.ht : Int) m.ht)) → Kept (fun i => i = b) W1 w2 → Hid (Calls Tryz.prog 151 #[.pointer (some ⟨tb, 0, none⟩)] w2 fun x w' => x = .returned (.tuple #[]) ∧ Nd w' tb tk tv (.pointer (some ⟨b, 0, none⟩)) o.ptr (.int .i64 (1 + max ((Tr.node b k v r m).ht : Int) o.ht)) ∧ Kept (fun i => i = tb) w2 w') ∧ Hid ((Tr.node b k v r m).At 145 w2) ∧ Hid (o.At 145 w2) ∧ Hid (Kept (fun i => i = b ∨ i = tb) w w2) from by
    intro w2 n1 k1
    obtain ⟨K1, B1, B2, hm', hr', ho'⟩ := HH.out
    have a1 : (Tr.node b k v r m).At 145 w2 := ⟨n1, hr'.kept k1 (fun i hi e => (hn i (.inr (.inr hi))).1 e), hm'.kept k1 (fun i hi e => (hn i (.inr (.inl hi))).1 e)⟩
    have a2 : o.At 145 w2 := ho'.kept k1 (fun i hi e => (hn i (.inl hi)).1 e)
    have a3 : Nd w2 tb tk tv (.pointer (some ⟨b, 0, none⟩)) o.ptr (.int .i64 h1) := hp_kept B2 k1 hne'
    exact (And.intro (hid (measure_any tb tk tv h1 (Tr.node b k v r m) o w2 a3 a1 a2 (by first | omega | (simp only [Tr.ht]; omega)) (by first | omega | (simp only [Tr.ht]; omega)))) (And.intro (hid a1) (And.intro (hid a2) (hid (K1.trans k1 (fun i _ e => .inl e)))))))
  clear hb ht ho hm hr K1 B1 B2 hm' hr' ho' HH
  have HW := hid hW1
  clear hW1
  go_enter Tryz.func153, Tryz.ntmps153
  go_upto_region 3 with (fail)
  rw [← HW.out]
  go_wp2_with (first
    | (go_at_call 151
       refine M1.out.mono ?_
       rintro e w2 ⟨rfl, n1, k1⟩
       obtain ⟨M2, A1, A2, KK⟩ := MK.out w2 n1 k1
       clear M1 n1 k1)
    | (go_at_call 151
       refine M2.out.mono ?_
       rintro e w3 ⟨rfl, n2, k2⟩
       have HN := hid (And.intro n2 k2)
       clear M2 n2 k2))
  go_ret
  obtain ⟨n2, k2⟩ := HN.out
  have q1 : (Tr.node b k v r m).At 145 w3 := A1.out.kept k2 (fun i hi e => by
    rw [Tr.bs_node] at hi
    simp only [List.mem_append, List.mem_cons] at hi
    rcases hi with hi | hi | hi
    · exact (hn i (by simp [hi])).2 e
    · omega
    · exact (hn i (by simp [hi])).2 e)
  have q2 : o.At 145 w3 := A2.out.kept k2 (fun i hi e => (hn i (.inl hi)).2 e)
  exact ⟨rfl, ⟨n2, q1, q2⟩, KK.out.trans k2 (fun i _ e => .inr e)⟩

end Go.Proofs.YthcoigbkdbkojaaGreat.V

namespace Go.Proofs.YthcoigbkdbkojaaGreat.V

theorem nd_two {b c : Nat} {L X R : List Nat} (h : (b :: ((L ++ c :: X) ++ R)).Nodup) : b ≠ c ∧ (∀ i, i ∈ L ∨ i ∈ X ∨ i ∈ R → i ≠ b ∧ i ≠ c) := by
  grind
theorem nd_three {b c d : Nat} {L X Y R : List Nat} (h : (b :: ((L ++ c :: (X ++ d :: Y)) ++ R)).Nodup) : b ≠ c ∧ b ≠ d ∧ c ≠ d ∧ (∀ i, i ∈ L ∨ i ∈ X ∨ i ∈ Y ∨ i ∈ R → i ≠ b ∧ i ≠ c ∧ i ≠ d) := by
  grind
theorem nd_two' {b c : Nat} {L X R : List Nat} (h : (b :: (R ++ (L ++ c :: X))).Nodup) : b ≠ c ∧ (∀ i, i ∈ L ∨ i ∈ X ∨ i ∈ R → i ≠ b ∧ i ≠ c) := by
  grind
theorem nd_three' {b c d : Nat} {X Y L R : List Nat} (h : (b :: (R ++ ((Y ++ d :: X) ++ c :: L))).Nodup) : b ≠ c ∧ b ≠ d ∧ c ≠ d ∧ (∀ i, i ∈ L ∨ i ∈ X ∨ i ∈ Y ∨ i ∈ R → i ≠ b ∧ i ≠ c ∧ i ≠ d) := by
  grind
end Go.Proofs.YthcoigbkdbkojaaGreat.V

namespace Go.Proofs.YthcoigbkdbkojaaGreat.V
open Go.RowKit

/-- A node and its two trees, measured. -/
structure Lv (w W : World) (b : Nat) (k : ByteArray) (v : Value) (l r : Tr) : Prop where
  nd : Nd W b k v l.ptr r.ptr (.int .i64 (1 + max (l.ht : Int) r.ht))
  l : l.At 145 W
  r : r.At 145 W
  kp : Kept (fun i => i = b) w W

theorem Lv.drewN {w W : World} {b : Nat} {k : ByteArray} {v : Value} {l r : Tr} (h : Lv w W b k v l r) (n : Nat) : Lv w (W.drewN n) b k v l r :=
  ⟨h.nd, Tr.At.heap (w := W) (w' := W.drewN n) rfl h.l, Tr.At.heap (w := W) (w' := W.drewN n) rfl h.r, h.kp.drewN⟩

theorem wrap_sub (a b : Nat) (h1 : a ≤ 1000000) (h2 : b ≤ 1000000) : IntKind.i64.wrap ((a : Int) - b) = (a : Int) - b := by rw [IntKind.wrap_i64]; omega

abbrev LvPost (b : Nat) (k : ByteArray) (v : Value) (l r : Tr) (w : World) : Ending → World → Prop := fun x w' => ∃ t' : Tr, x = .returned t'.ptr ∧ t'.At 145 w' ∧ t'.toL = l.toL ++ (b, k, v) :: r.toL ∧ Kept (fun i => i ∈ t'.bs) w w'

theorem tall_all (t : Tr) (w : World) (h : t.At 145 w) : ∀ n, Calls Tryz.prog 152 #[.pointer t.addr] (w.drewN n) fun x w' => x = .returned (.int .i64 t.ht) ∧ w' = w.drewN n := fun n => tall_any t _ (Tr.At.heap (w := w) (w' := w.drewN n) rfl h)

theorem mem_bs {t : Tr} {L : List En} {i : Nat} (e : t.toL = L) (h : i ∈ blks L) : i ∈ t.bs := by unfold Tr.bs; rw [e]; exact h

theorem step2L {w W3 w3 : World} {b lb mb : Nat} {k lk mk : ByteArray} {v lv mv : Value} {ll x y r : Tr} {hh : Int} (L3 : Lv w W3 b k v (Tr.node lb lk lv ll (Tr.node mb mk mv x y)) r)
    (ND : b ≠ lb ∧ b ≠ mb ∧ lb ≠ mb ∧ (∀ i, i ∈ ll.bs ∨ i ∈ x.bs ∨ i ∈ y.bs ∨ i ∈ r.bs → i ≠ b ∧ i ≠ lb ∧ i ≠ mb)) (HS : ll.ht ≤ 800000 ∧ x.ht ≤ 800000 ∧ y.ht ≤ 800000 ∧ r.ht ≤ 800000)
    (n1 : (Tr.node mb mk mv (Tr.node lb lk lv ll x) y).At 145 w3) (k1 : Kept (fun i => i = lb ∨ i = mb) W3 w3) (B0 : Nd w3 b k v (.pointer (some ⟨lb, 0, none⟩)) r.ptr (.int .i64 hh)) :
    Calls Tryz.prog 154 #[.pointer (some ⟨b, 0, none⟩)] (w3.setCell ⟨b, 2, none⟩ (.pointer (some ⟨mb, 0, none⟩))) fun e w' => e = .returned (.pointer (some ⟨mb, 0, none⟩)) ∧ LvPost b k v (Tr.node lb lk lv ll (Tr.node mb mk mv x y)) r w (.returned (.pointer (some ⟨mb, 0, none⟩))) w' := by
  obtain ⟨W4, hW4⟩ : ∃ W4, W4 = w3.setCell ⟨b, 2, none⟩ (.pointer (some ⟨mb, 0, none⟩)) := ⟨_, rfl⟩
  rw [← hW4]
  obtain ⟨d1, d2, d3, dd⟩ := ND
  have K4 : Kept (fun i => i = b) w3 W4 := by rw [hW4]; exact (Kept.refl (fun i => i = b) w3).setCell (p := ⟨b, 2, none⟩) (fun _ => rfl) _
  have B4 : Nd W4 b k v (.pointer (some ⟨mb, 0, none⟩)) r.ptr (.int .i64 hh) := by rw [hW4]; exact set_block (i := 2) B0 _
  have n4 : (Tr.node mb mk mv (Tr.node lb lk lv ll x) y).At 145 W4 := n1.kept K4 (fun i hi e => by
    simp only [Tr.bs_node, List.mem_append, List.mem_cons] at hi
    subst e
    rcases hi with ((hi | hi | hi) | hi | hi)
    · exact (dd i (by simp [hi])).1 rfl
    · omega
    · exact (dd i (by simp [hi])).1 rfl
    · omega
    · exact (dd i (by simp [hi])).1 rfl)
  have r4 : r.At 145 W4 := (L3.r.kept k1 (fun i hi e => by have := dd i (by simp [hi]); omega)).kept K4 (fun i hi e => (dd i (by simp [hi])).1 e)
  refine (lowUp_any b mb k mk v mv hh _ (Tr.node lb lk lv ll x) y r W4 B4 n4.1 n4.2.1 n4.2.2 r4 d2 (fun i hi => ?_) ?_ (by omega) (by omega)).mono ?_
  · simp only [Tr.bs_node, List.mem_append, List.mem_cons] at hi
    rcases hi with (hi | hi | hi) | hi | hi
    · have := dd i (by simp [hi]); omega
    · omega
    · have := dd i (by simp [hi]); omega
    · have := dd i (by simp [hi]); omega
    · have := dd i (by simp [hi]); omega
  · simp only [Tr.ht]; omega
  · rintro e w5 ⟨rfl, n5, k5⟩
    refine ⟨rfl, (Tr.node mb mk mv (Tr.node lb lk lv ll x) (Tr.node b k v y r)), rfl, n5, by simp [Tr.toL], ?_⟩
    have m1 : ∀ i, i = b ∨ i = lb ∨ i = mb → i ∈ (Tr.node mb mk mv (Tr.node lb lk lv ll x) (Tr.node b k v y r)).bs := by intro i hi; simp only [Tr.bs_node, List.mem_append, List.mem_cons]; grind
    exact (((L3.kp.mono (fun i _ e => m1 i (.inl e))).trans k1 (fun i _ e => m1 i (.inr e))).trans K4 (fun i _ e => m1 i (.inl e))).trans k5 (fun i _ e => m1 i (by rcases e with e | e <;> simp [e]))

theorem step2R {w W3 w3 : World} {b lb mb : Nat} {k lk mk : ByteArray} {v lv mv : Value} {ll x y r : Tr} {hh : Int} (L3 : Lv w W3 b k v r (Tr.node lb lk lv (Tr.node mb mk mv y x) ll))
    (ND : b ≠ lb ∧ b ≠ mb ∧ lb ≠ mb ∧ (∀ i, i ∈ ll.bs ∨ i ∈ x.bs ∨ i ∈ y.bs ∨ i ∈ r.bs → i ≠ b ∧ i ≠ lb ∧ i ≠ mb)) (HS : ll.ht ≤ 800000 ∧ x.ht ≤ 800000 ∧ y.ht ≤ 800000 ∧ r.ht ≤ 800000)
    (n1 : (Tr.node mb mk mv y (Tr.node lb lk lv x ll)).At 145 w3) (k1 : Kept (fun i => i = lb ∨ i = mb) W3 w3) (B0 : Nd w3 b k v r.ptr (.pointer (some ⟨lb, 0, none⟩)) (.int .i64 hh)) :
    Calls Tryz.prog 153 #[.pointer (some ⟨b, 0, none⟩)] (w3.setCell ⟨b, 3, none⟩ (.pointer (some ⟨mb, 0, none⟩))) fun e w' => e = .returned (.pointer (some ⟨mb, 0, none⟩)) ∧ LvPost b k v r (Tr.node lb lk lv (Tr.node mb mk mv y x) ll) w (.returned (.pointer (some ⟨mb, 0, none⟩))) w' := by
  obtain ⟨W4, hW4⟩ : ∃ W4, W4 = w3.setCell ⟨b, 3, none⟩ (.pointer (some ⟨mb, 0, none⟩)) := ⟨_, rfl⟩
  rw [← hW4]
  obtain ⟨d1, d2, d3, dd⟩ := ND
  have K4 : Kept (fun i => i = b) w3 W4 := by rw [hW4]; exact (Kept.refl (fun i => i = b) w3).setCell (p := ⟨b, 3, none⟩) (fun _ => rfl) _
  have B4 : Nd W4 b k v r.ptr (.pointer (some ⟨mb, 0, none⟩)) (.int .i64 hh) := by rw [hW4]; exact set_block (i := 3) B0 _
  have n4 : (Tr.node mb mk mv y (Tr.node lb lk lv x ll)).At 145 W4 := n1.kept K4 (fun i hi e => by
    simp only [Tr.bs_node, List.mem_append, List.mem_cons] at hi
    subst e
    rcases hi with (hi | hi | hi | hi | hi)
    · exact (dd i (by simp [hi])).1 rfl
    · omega
    · exact (dd i (by simp [hi])).1 rfl
    · omega
    · exact (dd i (by simp [hi])).1 rfl)
  have r4 : r.At 145 W4 := (L3.l.kept k1 (fun i hi e => by have := dd i (by simp [hi]); omega)).kept K4 (fun i hi e => (dd i (by simp [hi])).1 e)
  refine (highUp_any b mb k mk v mv hh _ (Tr.node lb lk lv x ll) y r W4 B4 n4.1 n4.2.2 n4.2.1 r4 d2 (fun i hi => ?_) ?_ (by omega) (by omega)).mono ?_
  · simp only [Tr.bs_node, List.mem_append, List.mem_cons] at hi
    rcases hi with (hi | hi | hi) | hi | hi
    · have := dd i (by simp [hi]); omega
    · omega
    · have := dd i (by simp [hi]); omega
    · have := dd i (by simp [hi]); omega
    · have := dd i (by simp [hi]); omega
  · simp only [Tr.ht]; omega
  · rintro e w5 ⟨rfl, n5, k5⟩
    refine ⟨rfl, (Tr.node mb mk mv (Tr.node b k v r y) (Tr.node lb lk lv x ll)), rfl, n5, by simp [Tr.toL], ?_⟩
    have m1 : ∀ i, i = b ∨ i = lb ∨ i = mb → i ∈ (Tr.node mb mk mv (Tr.node b k v r y) (Tr.node lb lk lv x ll)).bs := by intro i hi; simp only [Tr.bs_node, List.mem_append, List.mem_cons]; grind
    exact (((L3.kp.mono (fun i _ e => m1 i (.inl e))).trans k1 (fun i _ e => m1 i (.inr e))).trans K4 (fun i _ e => m1 i (.inl e))).trans k5 (fun i _ e => m1 i (by rcases e with e | e <;> simp [e]))

set_option maxRecDepth 100000 in
set_option maxHeartbeats 2000000 in
theorem levelled_any (b : Nat) (k : ByteArray) (v : Value) (h0 : Int) (l r : Tr) (w : World) (hb : Nd w b k v l.ptr r.ptr (.int .i64 h0)) (hl : l.At 145 w) (hr : r.At 145 w) (hn : (b :: (l.bs ++ r.bs)).Nodup) (nn : l.n + r.n ≤ 800000) :
    Calls Tryz.prog 114 #[.pointer (some ⟨b, 0, none⟩)] w (LvPost b k v l r w) := by
  have g1 := l.ht_le
  have g2 := r.ht_le
  have nb : b ∉ l.bs ∧ b ∉ r.bs := by
    have := (List.nodup_cons.1 hn).1
    simp only [List.mem_append, not_or] at this
    exact this
  have M1 := hid (measure_any b k v h0 l r w hb hl hr (by omega) (by omega))
  have LV := hid (show ∀ w1, Nd w1 b k v l.ptr r.ptr (.int .i64 (1 + max (l.ht : Int) r.ht)) → Kept (fun i => i = b) w w1 → Lv w w1 b k v l r from fun w1 a1 a2 => ⟨a1, hl.kept a2 (fun i hi e => nb.1 (e ▸ hi)), hr.kept a2 (fun i hi e => nb.2 (e ▸ hi)), a2⟩)
  have HN := hid hn
  have HG := hid (And.intro nn (And.intro g1 g2))
  have hw := wrap_sub l.ht r.ht (by omega) (by omega)
  clear hb hl hr hn nn g1 g2 nb
  generalize hP : LvPost b k v l r w = P
  have HP := hid hP
  clear hP
  obtain ⟨ml, hml⟩ : ∃ ml, l.ht = ml := ⟨_, rfl⟩
  obtain ⟨mr, hmr⟩ : ∃ mr, r.ht = mr := ⟨_, rfl⟩
  obtain ⟨pl, hpl⟩ : ∃ pl, l.addr = pl := ⟨_, rfl⟩
  obtain ⟨pr, hpr⟩ : ∃ pr, r.addr = pr := ⟨_, rfl⟩
  rw [hml, hmr] at hw
  have HE := hid (And.intro hml (And.intro hmr (And.intro hpl hpr)))
  clear hml hmr hpl hpr
  go_enter Tryz.func114, Tryz.ntmps114
  go_wp2_with (
    go_at_call 151
    refine M1.out.mono ?_
    rintro e w1 ⟨rfl, n1, k1⟩
    have L1 := hid (LV.out w1 n1 k1)
    have c2 : w1.cell? ⟨b, 2, none⟩ = some (.pointer pl) := HE.out.2.2.1 ▸ (cells5 n1).2.2.1
    have c3 : w1.cell? ⟨b, 3, none⟩ = some (.pointer pr) := HE.out.2.2.2 ▸ (cells5 n1).2.2.2.1
    have T1 := hid (show ∀ n, Calls Tryz.prog 152 #[.pointer pl] (w1.drewN n) fun x w' => x = .returned (.int .i64 ml) ∧ w' = w1.drewN n from HE.out.1 ▸ HE.out.2.2.1 ▸ tall_all l w1 L1.out.l)
    have T2 := hid (show ∀ n, Calls Tryz.prog 152 #[.pointer pr] (w1.drewN n) fun x w' => x = .returned (.int .i64 mr) ∧ w' = w1.drewN n from HE.out.2.1 ▸ HE.out.2.2.2 ▸ tall_all r w1 L1.out.r)
    clear n1 k1 M1)
  go_quiet ((first
    | (go_at_call 152; with_reducible show Calls _ _ #[.pointer pl] _ _; exact Calls.quiet_of_same (T1.out _))
    | (go_at_call 152; exact Calls.quiet_of_same (T2.out _))))
  have L2 := hid (L1.out.drewN nq)
  generalize w1.drewN nq = W at L2 ⊢
  clear c2 c3 T1 T2 L1 LV
  have c2 : W.cell? ⟨b, 2, none⟩ = some (.pointer pl) := HE.out.2.2.1 ▸ (cells5 L2.out.nd).2.2.1
  have c3 : W.cell? ⟨b, 3, none⟩ = some (.pointer pr) := HE.out.2.2.2 ▸ (cells5 L2.out.nd).2.2.2.1
  rcases (show ml = mr + 2 ∨ mr = ml + 2 ∨ (ml ≠ mr + 2 ∧ mr ≠ ml + 2) by omega) with hA | hA | hA
  · have hT : ((ml : Int) - mr == 2) = true := by rw [beq_iff_eq]; omega
    have HA := hid hA
    clear hA
    cases l with
    | nil => exact absurd HE.out.1 (by have := HA.out; simp only [Tr.ht]; omega)
    | node lb lk lv ll lr =>
      have e : pl = some ⟨lb, 0, none⟩ := HE.out.2.2.1.symm
      subst e
      obtain ⟨-, -, d2, d3, -⟩ := cells5 L2.out.l.1
      obtain ⟨mll, hmll⟩ : ∃ m, ll.ht = m := ⟨_, rfl⟩
      obtain ⟨mlr, hmlr⟩ : ∃ m, lr.ht = m := ⟨_, rfl⟩
      obtain ⟨pll, hpll⟩ : ∃ m, ll.addr = m := ⟨_, rfl⟩
      obtain ⟨plr, hplr⟩ : ∃ m, lr.addr = m := ⟨_, rfl⟩
      have T1 := hid (show ∀ n, Calls Tryz.prog 152 #[.pointer pll] (W.drewN n) fun x w' => x = .returned (.int .i64 mll) ∧ w' = W.drewN n from hmll ▸ hpll ▸ tall_all ll W L2.out.l.2.1)
      have T2 := hid (show ∀ n, Calls Tryz.prog 152 #[.pointer plr] (W.drewN n) fun x w' => x = .returned (.int .i64 mlr) ∧ w' = W.drewN n from hmlr ▸ hplr ▸ tall_all lr W L2.out.l.2.2)
      simp only [Tr.ptr, hpll, hplr] at d2 d3
      have HE2 := hid (And.intro hmll hmlr)
      clear hmll hmlr hpll hplr
      by_cases hB : mll < mlr
      · cases lr with
        | nil => exact absurd HE2.out.2 (by simp only [Tr.ht]; omega)
        | node mb mk mv x y =>
          go_wp2_with fail
          go_quiet ((first
            | (go_at_call 152; with_reducible show Calls _ _ #[.pointer pll] _ _; exact Calls.quiet_of_same (T1.out _))
            | (go_at_call 152; exact Calls.quiet_of_same (T2.out _))))
          have L3 := hid (L2.out.drewN nq)
          generalize W.drewN nq = W3 at L3 ⊢
          clear c2 c3 d2 d3 T1 T2
          have e2 : W3.cell? ⟨b, 2, none⟩ = some (.pointer (some ⟨lb, 0, none⟩)) := (cells5 L3.out.nd).2.2.1
          have ND := hid (nd_three (by simpa only [Tr.bs_node] using HN.out))
          have HS := hid (show ll.ht ≤ 800000 ∧ x.ht ≤ 800000 ∧ y.ht ≤ 800000 ∧ r.ht ≤ 800000 by
            have a0 := HG.out.1
            have a1 := ll.ht_le
            have a2 := x.ht_le
            have a3 := y.ht_le
            have a4 := r.ht_le
            simp only [Tr.n, Tr.toL, List.length_append, List.length_cons] at a0 a1 a2 a3 a4
            omega)
          have U := hid (highUp_any lb mb lk mk lv mv _ _ y x ll W3 L3.out.l.1 L3.out.l.2.2.1 L3.out.l.2.2.2.2 L3.out.l.2.2.2.1 L3.out.l.2.1 ND.out.2.2.1 (fun i hi => (ND.out.2.2.2 i (by grind)).2) (by have := HS.out; omega) (by have := HS.out; omega) (by have := HS.out; omega))
          have HFR := hid (fun (w3 : World) (hk : Kept (fun i => i = lb ∨ i = mb) W3 w3) => hp_kept L3.out.nd hk (by have := ND.out.1; have := ND.out.2.1; omega))
          go_wp2_with (first
            | (go_at_call 153
               refine U.out.mono ?_
               rintro e w3 ⟨rfl, n1, k1⟩
               have B0 := HFR.out w3 k1
               have f2 := (cells5 B0).2.2.1
               have ff : ∀ o, w3.frozen? ⟨b, o, none⟩ = false := fun o => free_of_block B0
               have N1 := hid (And.intro n1 (And.intro k1 B0))
               clear n1 k1 B0)
            | (go_at_call 154
               refine (step2L L3.out ND.out HS.out N1.out.1 N1.out.2.1 N1.out.2.2).mono ?_
               rintro e w5 ⟨rfl, hp⟩
               have N2 := hid hp
               clear hp))
          rw [← HP.out]
          exact N2.out
      · go_wp2_with fail
        go_quiet ((first
          | (go_at_call 152; with_reducible show Calls _ _ #[.pointer pll] _ _; exact Calls.quiet_of_same (T1.out _))
          | (go_at_call 152; exact Calls.quiet_of_same (T2.out _))))
        have L3 := hid (L2.out.drewN nq)
        generalize W.drewN nq = W3 at L3 ⊢
        clear c2 c3 d2 d3 T1 T2
        have ND := hid (nd_two (by simpa only [Tr.bs_node] using HN.out))
        have U := hid (lowUp_any b lb k lk v lv _ _ ll lr r W3 L3.out.nd L3.out.l.1 L3.out.l.2.1 L3.out.l.2.2 L3.out.r ND.out.1 (fun i hi => ND.out.2 i (by grind)) (by
            have a0 := HG.out.1
            have a1 := ll.ht_le
            simp only [Tr.n, Tr.toL, List.length_append, List.length_cons] at a0 a1
            omega) (by
            have a0 := HG.out.1
            have a1 := lr.ht_le
            simp only [Tr.n, Tr.toL, List.length_append, List.length_cons] at a0 a1
            omega) (by
            have a0 := HG.out.1
            have a1 := r.ht_le
            simp only [Tr.n, Tr.toL, List.length_append, List.length_cons] at a0 a1
            omega))
        go_wp2_with (
          go_at_call 154
          refine U.out.mono ?_
          rintro e w3 ⟨rfl, n1, k1⟩
          have N1 := hid (And.intro n1 k1)
          clear n1 k1)
        rw [← HP.out]
        refine ⟨(Tr.node lb lk lv ll (Tr.node b k v lr r)), rfl, N1.out.1, by simp [Tr.toL], ?_⟩
        have m1 : ∀ i, i = b ∨ i = lb → i ∈ (Tr.node lb lk lv ll (Tr.node b k v lr r)).bs := by intro i hi; simp only [Tr.bs_node, List.mem_append, List.mem_cons]; grind
        exact (L3.out.kp.mono (fun i _ e => m1 i (.inl e))).trans N1.out.2 (fun i _ e => m1 i e)
  · have hT : ((ml : Int) - mr == 2) = false := by rw [beq_eq_false_iff_ne]; omega
    have hT2 : ((ml : Int) - mr == -2) = true := by rw [beq_iff_eq]; omega
    have HA := hid hA
    clear hA
    cases r with
    | nil => exact absurd HE.out.2.1 (by have := HA.out; simp only [Tr.ht]; omega)
    | node lb lk lv lr ll =>
      have e : pr = some ⟨lb, 0, none⟩ := HE.out.2.2.2.symm
      subst e
      obtain ⟨-, -, d2, d3, -⟩ := cells5 L2.out.r.1
      obtain ⟨mll, hmll⟩ : ∃ m, ll.ht = m := ⟨_, rfl⟩
      obtain ⟨mlr, hmlr⟩ : ∃ m, lr.ht = m := ⟨_, rfl⟩
      obtain ⟨pll, hpll⟩ : ∃ m, ll.addr = m := ⟨_, rfl⟩
      obtain ⟨plr, hplr⟩ : ∃ m, lr.addr = m := ⟨_, rfl⟩
      have T1 := hid (show ∀ n, Calls Tryz.prog 152 #[.pointer pll] (W.drewN n) fun x w' => x = .returned (.int .i64 mll) ∧ w' = W.drewN n from hmll ▸ hpll ▸ tall_all ll W L2.out.r.2.2)
      have T2 := hid (show ∀ n, Calls Tryz.prog 152 #[.pointer plr] (W.drewN n) fun x w' => x = .returned (.int .i64 mlr) ∧ w' = W.drewN n from hmlr ▸ hplr ▸ tall_all lr W L2.out.r.2.1)
      simp only [Tr.ptr, hpll, hplr] at d2 d3
      have HE2 := hid (And.intro hmll hmlr)
      clear hmll hmlr hpll hplr
      by_cases hB : mll < mlr
      · cases lr with
        | nil => exact absurd HE2.out.2 (by simp only [Tr.ht]; omega)
        | node mb mk mv y x =>
          go_wp2_with fail
          go_quiet ((first
            | (go_at_call 152; with_reducible show Calls _ _ #[.pointer pll] _ _; exact Calls.quiet_of_same (T1.out _))
            | (go_at_call 152; exact Calls.quiet_of_same (T2.out _))))
          have L3 := hid (L2.out.drewN nq)
          generalize W.drewN nq = W3 at L3 ⊢
          clear c2 c3 d2 d3 T1 T2
          have e2 : W3.cell? ⟨b, 3, none⟩ = some (.pointer (some ⟨lb, 0, none⟩)) := (cells5 L3.out.nd).2.2.2.1
          have ND := hid (nd_three' (by simpa only [Tr.bs_node] using HN.out))
          have HS := hid (show ll.ht ≤ 800000 ∧ x.ht ≤ 800000 ∧ y.ht ≤ 800000 ∧ l.ht ≤ 800000 by
            have a0 := HG.out.1
            have a1 := ll.ht_le
            have a2 := x.ht_le
            have a3 := y.ht_le
            have a4 := l.ht_le
            simp only [Tr.n, Tr.toL, List.length_append, List.length_cons] at a0 a1 a2 a3 a4
            omega)
          have U := hid (lowUp_any lb mb lk mk lv mv _ _ y x ll W3 L3.out.r.1 L3.out.r.2.1.1 L3.out.r.2.1.2.1 L3.out.r.2.1.2.2 L3.out.r.2.2 ND.out.2.2.1 (fun i hi => (ND.out.2.2.2 i (by grind)).2) (by have := HS.out; omega) (by have := HS.out; omega) (by have := HS.out; omega))
          have HFR := hid (fun (w3 : World) (hk : Kept (fun i => i = lb ∨ i = mb) W3 w3) => hp_kept L3.out.nd hk (by have := ND.out.1; have := ND.out.2.1; omega))
          go_wp2_with (first
            | (go_at_call 154
               refine U.out.mono ?_
               rintro e w3 ⟨rfl, n1, k1⟩
               have B0 := HFR.out w3 k1
               have f2 := (cells5 B0).2.2.2.1
               have ff : ∀ o, w3.frozen? ⟨b, o, none⟩ = false := fun o => free_of_block B0
               have N1 := hid (And.intro n1 (And.intro k1 B0))
               clear n1 k1 B0)
            | (go_at_call 153
               refine (step2R L3.out ND.out HS.out N1.out.1 N1.out.2.1 N1.out.2.2).mono ?_
               rintro e w5 ⟨rfl, hp⟩
               have N2 := hid hp
               clear hp))
          rw [← HP.out]
          exact N2.out
      · go_wp2_with fail
        go_quiet ((first
          | (go_at_call 152; with_reducible show Calls _ _ #[.pointer pll] _ _; exact Calls.quiet_of_same (T1.out _))
          | (go_at_call 152; exact Calls.quiet_of_same (T2.out _))))
        have L3 := hid (L2.out.drewN nq)
        generalize W.drewN nq = W3 at L3 ⊢
        clear c2 c3 d2 d3 T1 T2
        have ND := hid (nd_two' (by simpa only [Tr.bs_node] using HN.out))
        have U := hid (highUp_any b lb k lk v lv _ _ ll lr l W3 L3.out.nd L3.out.r.1 L3.out.r.2.2 L3.out.r.2.1 L3.out.l ND.out.1 (fun i hi => ND.out.2 i (by grind)) (by
            have a0 := HG.out.1
            have a1 := ll.ht_le
            simp only [Tr.n, Tr.toL, List.length_append, List.length_cons] at a0 a1
            omega) (by
            have a0 := HG.out.1
            have a1 := lr.ht_le
            simp only [Tr.n, Tr.toL, List.length_append, List.length_cons] at a0 a1
            omega) (by
            have a0 := HG.out.1
            have a1 := l.ht_le
            simp only [Tr.n, Tr.toL, List.length_append, List.length_cons] at a0 a1
            omega))
        go_wp2_with (
          go_at_call 153
          refine U.out.mono ?_
          rintro e w3 ⟨rfl, n1, k1⟩
          have N1 := hid (And.intro n1 k1)
          clear n1 k1)
        rw [← HP.out]
        refine ⟨(Tr.node lb lk lv (Tr.node b k v l lr) ll), rfl, N1.out.1, by simp [Tr.toL], ?_⟩
        have m1 : ∀ i, i = b ∨ i = lb → i ∈ (Tr.node lb lk lv (Tr.node b k v l lr) ll).bs := by intro i hi; simp only [Tr.bs_node, List.mem_append, List.mem_cons]; grind
        exact (L3.out.kp.mono (fun i _ e => m1 i (.inl e))).trans N1.out.2 (fun i _ e => m1 i e)
  · have hT : ((ml : Int) - mr == 2) = false := by rw [beq_eq_false_iff_ne]; omega
    have hT2 : ((ml : Int) - mr == -2) = false := by rw [beq_eq_false_iff_ne]; omega
    clear hA
    go_wp2_with fail
    rw [← HP.out]
    refine ⟨Tr.node b k v l r, rfl, ⟨L2.out.nd, L2.out.l, L2.out.r⟩, rfl, L2.out.kp.mono (fun i _ e => ?_)⟩
    rw [Tr.bs_node, e]
    simp

end Go.Proofs.YthcoigbkdbkojaaGreat.V
