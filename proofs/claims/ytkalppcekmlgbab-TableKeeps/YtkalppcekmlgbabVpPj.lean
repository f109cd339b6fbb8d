import Derived.Test.YtkalppcekmlgbabVpPi
namespace Go.Proofs.Ytkalppcekmlgbab.Vp
open Go.RowKit

def Tr.upd (b : Nat) (u : Value) : Tr → Tr
  | .nil => .nil
  | .node b' k v l r => .node b' k (if b' = b then u else v) (l.upd b u) (r.upd b u)
theorem Tr.addr_upd (b : Nat) (u : Value) (t : Tr) : (t.upd b u).addr = t.addr := by cases t <;> rfl
theorem Tr.ht_upd (b : Nat) (u : Value) : ∀ t : Tr, (t.upd b u).ht = t.ht
  | .nil => rfl
  | .node _ _ _ l r => by simp only [Tr.upd, Tr.ht, Tr.ht_upd b u l, Tr.ht_upd b u r]
theorem Tr.toL_upd (b : Nat) (u : Value) : ∀ t : Tr, (t.upd b u).toL = t.toL.map (fun e => if e.1 = b then (e.1, e.2.1, u) else e)
  | .nil => rfl
  | .node b' k v l r => by
    simp only [Tr.upd, Tr.toL, Tr.toL_upd b u l, Tr.toL_upd b u r, List.map_append, List.map_cons]
    congr 2
    by_cases h : b' = b <;> simp [h]
theorem Tr.bs_upd (b : Nat) (u : Value) (t : Tr) : (t.upd b u).bs = t.bs := by
  unfold Tr.bs blks
  rw [Tr.toL_upd, List.map_map]
  congr 1
  funext e
  simp only [Function.comp]
  split <;> rfl
theorem Tr.n_upd (b : Nat) (u : Value) (t : Tr) : (t.upd b u).n = t.n := by unfold Tr.n; rw [Tr.toL_upd]; simp
theorem Tr.At.upd {w : World} (b : Nat) (u : Value) : ∀ {t : Tr}, t.At 81 w → (t.upd b u).At 81 (w.setCell ⟨b, 1, none⟩ u)
  | .nil, _ => trivial
  | .node b' k v l r, h => by
    obtain ⟨h0, h1, h2⟩ := h
    refine ⟨?_, h1.upd b u, h2.upd b u⟩
    simp only [Tr.ptr, Tr.addr_upd, Tr.ht_upd]
    by_cases hb : b' = b
    · subst hb
      rw [if_pos rfl]
      exact set_block (i := 1) h0 _
    · rw [if_neg hb]
      exact hp_set h0 hb _
theorem rises_upd {b : Nat} {u : Value} {t : Tr} (h : Rises t.toL) : Rises (t.upd b u).toL := by
  rw [Tr.toL_upd]
  unfold Rises
  rw [List.pairwise_map]
  refine h.imp ?_
  intro a c hac
  have e : ∀ e : En, (if e.1 = b then (e.1, e.2.1, u) else e).2.1 = e.2.1 := fun e => by split <;> rfl
  rw [e, e]
  exact hac

/-- What Put leaves. -/
structure PutP (w w' : World) (p : Nat) (t t' : Tr) (key : ByteArray) (u : Value) : Prop where
  tb : Tb w' p t'
  kp : Kept (fun i => i = p ∨ i ∈ t.bs) w w'
  nw : ∀ i ∈ t'.bs, i ∈ t.bs ∨ w.heap.size ≤ i
  ls : (∃ e, ent key t.toL = some e ∧ t'.toL = t.toL.map (fun x => if x.1 = e.1 then (x.1, x.2.1, u) else x)) ∨ (ent key t.toL = none ∧ ∃ m, t'.toL = ins (m, key, u) t.toL)

set_option maxRecDepth 100000 in
set_option maxHeartbeats 800000 in
theorem put_nil (key : ByteArray) (n : Option Addr) (w : World) : Calls Try.prog 13 #[.pointer none, .string key, .pointer n] w fun x w' => x = .returned (.tuple #[zv, .bool false]) ∧ Below w.heap.size w w' := by
  go_enter Try.func13, Try.ntmps13
  go_wp2
  go_ret2
  exact ⟨rfl, below_new _ _⟩

theorem rises_ins {x : En} {l : List En} (h : Rises l) (hn : ∀ e ∈ l, e.2.1 ≠ x.2.1) : Rises (ins x l) := by
  induction l with
  | nil => exact List.pairwise_singleton _ _
  | cons c l ih =>
    have ih' := ih h.tail (fun e he => hn e (by simp [he]))
    cases hk : kl x.2.1 c.2.1
    · have e : ins x (c :: l) = c :: ins x l := ins_high (l := []) (r := l) h hk
      rw [e]
      refine List.pairwise_cons.2 ⟨?_, ih'⟩
      intro y hy
      rw [(ins_perm x l).mem_iff] at hy
      rcases List.mem_cons.1 hy with hy | hy
      · rw [hy]
        cases h2 : kl c.2.1 x.2.1
        · exact absurd (kl_tri h2 hk) (hn c (by simp))
        · rfl
      · exact h.hi y hy
    · have e : ins x (c :: l) = x :: c :: l := by
        have := ins_low (l := []) (r := l) (x := x) (c := c) hk
        simpa [ins_nil] using this
      rw [e]
      refine List.pairwise_cons.2 ⟨?_, h⟩
      intro y hy
      rcases List.mem_cons.1 hy with hy | hy
      · rw [hy]; exact hk
      · exact kl_trans hk (h.hi y hy)

theorem put_end {w w2 w3 : World} {p : Nat} {t t1 : Tr} {key : ByteArray} {n : Option Addr} (ht : Tb w p t) (hq : ent key t.toL = none) (hb : Below w.heap.size w w2)
    (N : w3.heap[p]? = some (.cells #[.pointer t.addr, .int .i64 t.n] 74 (0, 0)) ∧ t1.At 81 w3 ∧ t1.toL = ins (w2.heap.size, key, .pointer n) t.toL ∧ Kept (fun i => i ∈ t1.bs) (w2.alloc (.cells #[.string key, .pointer n, .pointer none, .pointer none, .int .i64 1] 81)) w3) (o : Obj) :
    PutP w (((w3.setCell ⟨p, 0, none⟩ (.pointer t1.addr)).setCell ⟨p, 1, none⟩ (.int .i64 (t.n + 1))).alloc o) p t t1 key (.pointer n) := by
  obtain ⟨n1, n2, n3, n4⟩ := N
  have hs := hb.size
  have hpl := hp_lt ht.blk
  have hp1 : p ∉ t1.bs := by
    rw [bs_ins n3]
    rintro (h | h)
    · simp only at h; omega
    · exact ht.apart h
  have K4 : Kept (fun i => i = p) w3 (((w3.setCell ⟨p, 0, none⟩ (.pointer t1.addr)).setCell ⟨p, 1, none⟩ (.int .i64 (t.n + 1))).alloc o) :=
    (((Kept.refl (fun i => i = p) w3).setCell (p := ⟨p, 0, none⟩) (fun _ => rfl) _).setCell (p := ⟨p, 1, none⟩) (fun _ => rfl) _).alloc _
  refine ⟨⟨?_, n2.kept K4 (fun i hi e => hp1 (e ▸ hi)), ?_, ?_⟩, ?_, ?_, .inr ⟨hq, _, n3⟩⟩
  · rw [n_ins n3]
    have := hp_alloc (set_block (i := 1) (set_block (i := 0) n1 (.pointer t1.addr)) (.int .i64 (t.n + 1))) o
    simpa using this
  · rw [n3]
    exact rises_ins ht.rs (ent_none hq)
  · refine bs_ins_nodup n3 (List.nodup_cons.2 ⟨fun hm => ?_, ht.nd⟩)
    have := ht.at_.lt _ hm
    simp only at this
    omega
  · have k2 : Kept (fun i => i = p ∨ i ∈ t.bs) w (w2.alloc (.cells #[.string key, .pointer n, .pointer none, .pointer none, .int .i64 1] 81)) := ((Kept.ofBelow hb).mono (fun _ _ h => h.elim)).alloc _
    refine (k2.trans n4 ?_).trans K4 (fun i _ e => .inl e)
    intro i hi hm
    rw [bs_ins n3] at hm
    rcases hm with h | h
    · simp only at h; omega
    · exact .inr h
  · intro i hi
    rw [bs_ins n3] at hi
    rcases hi with h | h
    · simp only at h; exact .inr (by omega)
    · exact .inl h

set_option maxRecDepth 100000 in
set_option maxHeartbeats 2000000 in
theorem put_any (p : Nat) (key : ByteArray) (n : Option Addr) (t : Tr) (w : World) (ht : Tb w p t) (hn : t.n ≤ 600000) (hk : key.size ≤ 281474976710656) :
    Calls Try.prog 13 #[.pointer (some ⟨p, 0, none⟩), .string key, .pointer n] w fun x w' => ∃ t', x = .returned (getV key t.toL) ∧ PutP w w' p t t' key (.pointer n) := by
  have G := hid (at_any (some ⟨p, 0, none⟩) key t w (.inr ⟨p, rfl, ht⟩))
  generalize hP : (fun (x : Ending) (w' : World) => ∃ t', x = .returned (getV key t.toL) ∧ PutP w w' p t t' key (.pointer n)) = P
  have HP := hid hP
  clear hP
  cases hq : ent key t.toL with
  | some c =>
    obtain ⟨b, k, v⟩ := c
    have G2 := hid (hq ▸ G.out)
    obtain ⟨p', q', h', nd⟩ := ht.at_.mem b k v (ent_some hq).1
    have d1 := (cells5 nd).2.1
    have HE2 := hid hq
    have HT := hid ht
    have HN := hid nd
    have hbl := hp_lt nd
    clear G hq nd hn hk ht
    go_enter Try.func13, Try.ntmps13
    go_wp2_with (
      go_at_call 33
      refine G2.out.mono ?_
      rintro e w1 ⟨e1, hb⟩
      have e2 : e = .returned (.pointer (some ⟨b, 0, none⟩)) := e1
      subst e2
      have f0 := (hb.cell (p := ⟨b, 1, none⟩) hbl).trans d1
      have ff : ∀ o, w1.frozen? ⟨b, o, none⟩ = false := fun o => free_of_block (hp_below HN.out hb hbl)
      have HB := hid hb
      clear hb e1)
    rw [← HP.out]
    have hb := HB.out
    have ht1 := HT.out.below hb
    have hm : b ∈ t.bs := List.mem_map.2 ⟨(b, k, v), (ent_some HE2.out).1, rfl⟩
    have hpb : p ≠ b := fun e => HT.out.apart (e ▸ hm)
    refine ⟨t.upd b (.pointer n), by rw [getV, HE2.out]; rfl, ⟨?_, ht1.at_.upd b _, rises_upd HT.out.rs, by rw [Tr.bs_upd]; exact HT.out.nd⟩, ?_, fun i hi => .inl (by rw [Tr.bs_upd] at hi; exact hi), .inl ⟨_, HE2.out, Tr.toL_upd b _ t⟩⟩
    · rw [Tr.ptr, Tr.addr_upd, Tr.n_upd]
      exact hp_set ht1.blk hpb _
    · exact ((Kept.ofBelow hb).mono (fun _ _ h => h.elim)).setCell (p := ⟨b, 1, none⟩) (fun _ => .inr hm) _
  | none =>
    have G2 := hid (hq ▸ G.out)
    have HE2 := hid hq
    have HT := hid ht
    obtain ⟨c0, c1⟩ := cells2 ht.blk
    have hpl := hp_lt ht.blk
    have CL := hid (fun W => clone_any key W hk)
    have hnn := hn
    have hnw : IntKind.i64.wrap ((t.n : Int) + 1) = t.n + 1 := by rw [IntKind.wrap_i64]; omega
    have WI := hid (show ∀ w2, Below w.heap.size w w2 → Calls Try.prog 34 #[.pointer t.addr, .pointer (some ⟨w2.heap.size, 0, none⟩)] (w2.alloc (.cells #[.string key, .pointer n, .pointer none, .pointer none, .int .i64 1] 81)) (TPost (ins (w2.heap.size, key, .pointer n) t.toL) (w2.alloc (.cells #[.string key, .pointer n, .pointer none, .pointer none, .int .i64 1] 81))) from by
      intro w2 hb
      have h2 := (ht.below hb).below (below_new w2 (.cells #[.string key, .pointer n, .pointer none, .pointer none, .int .i64 1] 81))
      refine with_any w2.heap.size key (.pointer n) t _ (hp_new w2 _) h2.at_ h2.rs (List.nodup_cons.2 ⟨fun hm => ?_, h2.nd⟩) (by omega)
      have := (ht.below hb).at_.lt _ hm
      omega)
    have HX := hid (show ∀ w2, Below w.heap.size w w2 → ∀ w3 (t1 : Tr), t1.toL = ins (w2.heap.size, key, .pointer n) t.toL → Kept (fun i => i ∈ t1.bs) (w2.alloc (.cells #[.string key, .pointer n, .pointer none, .pointer none, .int .i64 1] 81)) w3 → w3.heap[p]? = some (.cells #[.pointer t.addr, .int .i64 t.n] 74 (0, 0)) from by
      intro w2 hb w3 t1 e1 k1
      have h2 := (ht.below hb).below (below_new w2 (.cells #[.string key, .pointer n, .pointer none, .pointer none, .int .i64 1] 81))
      refine hp_kept h2.blk k1 ?_
      rw [bs_ins e1]
      rintro (h | h)
      · have := hb.size; simp only at h; omega
      · exact ht.apart h)
    clear G hq hn hk ht
    go_enter Try.func13, Try.ntmps13
    go_wp2_with (
      go_at_call 33
      refine G2.out.mono ?_
      rintro e w1 ⟨e1, hb⟩
      have e2 : e = .returned (.pointer none) := e1
      subst e2
      have f0 := (hb.cell (p := ⟨p, 0, none⟩) hpl).trans c0
      have HB := hid hb
      clear hb e1)
    go_region_with (first
      | (go_at_call 28
         refine (CL.out w1.drew).mono ?_
         rintro e w2 ⟨rfl, hb⟩
         have hb2 := below_on HB.out (undrew hb)
         have g0 := (hb2.cell (p := ⟨p, 0, none⟩) hpl).trans c0
         have hz : p < w2.heap.size := Nat.lt_of_lt_of_le hpl hb2.size
         have g1 := ((below_new w2 (.cells #[.string key, .pointer n, .pointer none, .pointer none, .int .i64 1] 81)).cell (p := ⟨p, 0, none⟩) hz).trans g0
         have HB2 := hid hb2
         clear hb hb2)
      | (go_at_call 34
         refine (WI.out w2 HB2.out).mono ?_
         rintro e w3 ⟨t1, rfl, hp⟩
         have hblk := HX.out w2 HB2.out w3 t1 hp.2.1 hp.2.2
         have y0 := (cells2 hblk).1
         have y1 := (cells2 hblk).2
         have ff : ∀ o, w3.frozen? ⟨p, o, none⟩ = false := fun o => free_of_block hblk
         have N1 := hid (And.intro hblk hp)
         clear hp hblk))
    all_goals
      go_wp2
      rw [← HP.out]
      exact ⟨t1, by rw [getV, HE2.out]; rfl, put_end HT.out HE2.out HB2.out N1.out _⟩

end Go.Proofs.Ytkalppcekmlgbab.Vp
