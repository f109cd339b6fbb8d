import Derived.Test.YtkalppcekmlgbabPj
namespace Go.Proofs.Ytkalppcekmlgbab
open Go.RowKit

/-- What Delete leaves. -/
structure DelP (w w' : World) (p : Nat) (t t' : Tr) (key : ByteArray) : Prop where
  tb : Tb w' p t'
  kp : Kept (fun i => i = p ∨ i ∈ t.bs) w w'
  nw : ∀ i ∈ t'.bs, i ∈ t.bs
  ls : t'.toL = del key t.toL

set_option maxRecDepth 100000 in
set_option maxHeartbeats 800000 in
theorem delete_none (o : Option Addr) (key : ByteArray) (t : Tr) (w : World) (ht : TO w o t) (hq : ent key t.toL = none) :
    Calls Try.prog 25 #[.pointer o, .string key] w fun x w' => x = .returned (.tuple #[zv, .bool false]) ∧ Below w.heap.size w w' := by
  have G2 := hid (hq ▸ (at_any o key t w ht))
  clear ht hq
  go_enter Try.func25, Try.ntmps25
  go_wp2_with (
    go_at_call 38
    refine G2.out.mono ?_
    rintro e w1 ⟨e1, hb⟩
    have e2 : e = .returned (.pointer none) := e1
    subst e2
    have HB := hid hb
    clear hb e1)
  go_ret2
  exact ⟨rfl, below_on HB.out (below_new _ _)⟩

theorem rises_blk_key {l : List En} {a b : En} (hr : Rises l) (ha : a ∈ l) (hb : b ∈ l) (hk : a.2.1 = b.2.1) : a = b := by
  induction l with
  | nil => cases ha
  | cons c l ih =>
    rcases List.mem_cons.1 ha with h1 | h1 <;> rcases List.mem_cons.1 hb with h2 | h2
    · rw [h1, h2]
    · exact absurd hk (kl_ne (h1 ▸ hr.hi b h2))
    · exact absurd hk (kl_ne (h2 ▸ hr.hi a h1)).symm
    · exact ih hr.tail h1 h2

theorem len_del {key : ByteArray} : ∀ {l : List En} {e : En}, Rises l → ent key l = some e → (del key l).length + 1 = l.length
  | [], _, _, h => by cases h
  | c :: l, e, hr, h => by
    unfold ent at h
    rw [List.find?_cons] at h
    cases hk : (c.2.1.toList == key.toList)
    · rw [hk] at h
      have := len_del hr.tail h
      simp only [del, List.filter_cons, hk, Bool.not_false, if_true, List.length_cons] at *
      omega
    · have e2 := keq_iff.1 hk
      have hd : del key l = l := del_none (fun x hx => by rw [← e2]; exact (kl_ne (hr.hi x hx)).symm)
      have : del key (c :: l) = del key l := by simp [del, hk]
      rw [this, hd]
      rfl

theorem mem_blks_del {b : Nat} {k : ByteArray} {v : Value} {l : List En} (hn : (blks l).Nodup) (hm : (b, k, v) ∈ l) : b ∉ blks (del k l) := by
  intro h
  unfold blks at h
  obtain ⟨e, he, rfl⟩ := List.mem_map.1 h
  have h1 := mem_del he
  have h2 := (List.mem_filter.1 he).2
  have : e = (e.1, k, v) := by
    clear h h2 he
    induction l with
    | nil => cases h1
    | cons c l ih =>
      simp only [blks_cons, List.nodup_cons] at hn
      rcases List.mem_cons.1 h1 with h3 | h3 <;> rcases List.mem_cons.1 hm with h4 | h4
      · rw [h4]; exact h3
      · exact absurd (List.mem_map.2 ⟨_, h4, by rw [h3]⟩) hn.1
      · exact absurd (List.mem_map.2 ⟨_, h3, by rw [← h4]⟩) hn.1
      · exact ih hn.2 h4 h3
  rw [this] at h2
  simp at h2

set_option maxRecDepth 100000 in
set_option maxHeartbeats 2000000 in
theorem delete_some (p : Nat) (key : ByteArray) (t : Tr) (w : World) (ht : Tb w p t) (hn : t.n ≤ 600000) {b : Nat} {k : ByteArray} {v : Value} (hq : ent key t.toL = some (b, k, v)) :
    Calls Try.prog 25 #[.pointer (some ⟨p, 0, none⟩), .string key] w fun x w' => ∃ t', x = .returned (.tuple #[v, .bool true]) ∧ DelP w w' p t t' key := by
  have G2 := hid (hq ▸ (at_any (some ⟨p, 0, none⟩) key t w (.inr ⟨p, rfl, ht⟩)))
  generalize hP : (fun (x : Ending) (w' : World) => ∃ t', x = .returned (.tuple #[v, .bool true]) ∧ DelP w w' p t t' key) = P
  have HP := hid hP
  clear hP
  obtain ⟨hm, hk⟩ := ent_some hq
  simp only at hk
  subst hk
  obtain ⟨p', q', h', nd⟩ := ht.at_.mem b k v hm
  have hbl := hp_lt nd
  have hpl := hp_lt ht.blk
  have hnw : IntKind.i64.wrap ((t.n : Int) - 1) = t.n - 1 := by rw [IntKind.wrap_i64]; omega
  have c0 := (cells2 ht.blk).1
  have hbm : b ∈ t.bs := List.mem_map.2 ⟨(b, k, v), hm, rfl⟩
  have hpb : p ≠ b := fun e => ht.apart (e ▸ hbm)
  have WI := hid (show ∀ w1, Below w.heap.size w w1 → Calls Try.prog 42 #[.pointer t.addr, .string k] w1 (TPost (del k t.toL) w1) from fun w1 hb => without_any t w1 k (ht.below hb).at_ ht.rs ht.nd (by omega) ⟨_, hm, rfl⟩)
  have HX := hid (show ∀ w1, Below w.heap.size w w1 → ∀ w2 (t1 : Tr), t1.toL = del k t.toL → Kept (fun i => i ∈ t1.bs) w1 w2 → w2.heap[p]? = some (.cells #[.pointer t.addr, .int .i64 t.n] 89 (0, 0)) ∧ Nd w2 b k v (.pointer p') (.pointer q') (.int .i64 h') from by
    intro w1 hb w2 t1 e1 k1
    have hsub := (bs_sub e1).subset
    refine ⟨hp_kept (ht.below hb).blk k1 (fun h => ht.apart (hsub h)), hp_kept (hp_below nd hb hbl) k1 ?_⟩
    rw [bs_of e1]
    exact mem_blks_del ht.nd hm)
  have HT := hid (And.intro ht (And.intro hq nd))
  clear ht hq nd hn hm
  go_enter Try.func25, Try.ntmps25
  go_wp2_with (first
    | (go_at_call 38
       refine G2.out.mono ?_
       rintro e w1 ⟨e1, hb⟩
       have e2 : e = .returned (.pointer (some ⟨b, 0, none⟩)) := e1
       subst e2
       have f0 := (hb.cell (p := ⟨p, 0, none⟩) hpl).trans c0
       have HB := hid hb
       clear hb e1)
    | (go_at_call 42
       refine (WI.out w1 HB.out).mono ?_
       rintro e w2 ⟨t1, rfl, hp⟩
       obtain ⟨hblk, hnd⟩ := HX.out w1 HB.out w2 t1 hp.2.1 hp.2.2
       have y0 := (cells2 hblk).1
       have y1 := (cells2 hblk).2
       have z1 := (cells5 hnd).2.1
       have ff : ∀ o, w2.frozen? ⟨p, o, none⟩ = false := fun o => free_of_block hblk
       have N1 := hid (And.intro hblk hp)
       clear hp hblk hnd))
  rw [← HP.out]
  obtain ⟨n1, n2, n3, n4⟩ := N1.out
  obtain ⟨ht, hq, nd⟩ := HT.out
  have hb := HB.out
  have hsub := (bs_sub n3).subset
  have K4 : Kept (fun i => i = p) w2 ((w2.setCell ⟨p, 0, none⟩ (.pointer t1.addr)).setCell ⟨p, 1, none⟩ (.int .i64 ((t.n : Int) - 1))) :=
    ((Kept.refl (fun i => i = p) w2).setCell (p := ⟨p, 0, none⟩) (fun _ => rfl) _).setCell (p := ⟨p, 1, none⟩) (fun _ => rfl) _
  refine ⟨t1, rfl, ⟨?_, n2.kept K4 (fun i hi e => ht.apart (e ▸ hsub hi)), by rw [n3]; exact ht.rs.del k, (bs_sub n3).nodup ht.nd⟩, ?_, fun i hi => hsub hi, n3⟩
  · have e : (t1.n : Int) = (t.n : Int) - 1 := by
      have := len_del ht.rs hq
      rw [n_of n3]
      unfold Tr.n
      omega
    rw [e]
    have := set_block (i := 1) (set_block (i := 0) n1 (.pointer t1.addr)) (.int .i64 ((t.n : Int) - 1))
    simpa using this
  · exact (((Kept.ofBelow hb).mono (fun _ _ h => h.elim)).trans n4 (fun i _ e => .inr (hsub e))).trans K4 (fun i _ e => .inl e)

end Go.Proofs.Ytkalppcekmlgbab
