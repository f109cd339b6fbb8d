import Derived.Test.YthcoigbkdbkojabGreatK03
import Derived.Laws.EntriesVeiled
import Derived.RangeFuncNested
import Derived.RangeFuncBound
import Derived.RangeFuncCalls
import Derived.RangeFuncLeaves
import Derived.Shelf.RegionOpen
import Derived.OwnWalkIn
import Derived.TacticsInMore
set_option maxRecDepth 100000
namespace Go.Proofs.YthcoigbkdbkojabGreat.V
open Go.RowKit
def Tr.upd (b : Nat) (u : Value) : Tr → Tr
  | .nil => .nil
  | .node b' k v l r => .node b' k (if b' = b then u else v) (l.upd b u) (r.upd b u)
theorem Tr.addr_upd (b : Nat) (u : Value) (t : Tr) : (t.upd b u).addr = t.addr := by cases t <;> rfl
theorem Tr.ht_upd (b : Nat) (u : Value) : ∀ t : Tr, (t.upd b u).ht = t.ht
  | .nil => rfl
  | .node _ _ _ l r => by simp only [Tr.upd, Tr.ht, Tr.ht_upd b u l, Tr.ht_upd b u r]
theorem Tr.toL_upd (b : Nat) (u : Value) : ∀ t : Tr, (t.upd b u).toL = t.toL.map (fun e => if e.1 = b then (e.1, e.2.1, u) else e)
  | .nil => rfl
  | .node b' k v l r => by
    simp only [Tr.upd, Tr.toL, Tr.toL_upd b u l, Tr.toL_upd b u r, List.map_append, List.map_cons]
    congr 2
    by_cases h : b' = b <;> simp [h]
theorem Tr.bs_upd (b : Nat) (u : Value) (t : Tr) : (t.upd b u).bs = t.bs := by
  unfold Tr.bs blks
  rw [Tr.toL_upd, List.map_map]
  congr 1
  funext e
  simp only [Function.comp]
  split <;> rfl
theorem Tr.n_upd (b : Nat) (u : Value) (t : Tr) : (t.upd b u).n = t.n := by unfold Tr.n; rw [Tr.toL_upd]; simp
theorem Tr.At.upd {w : World} (b : Nat) (u : Value) : ∀ {t : Tr}, t.At 154 w → (t.upd b u).At 154 (w.setCell ⟨b, 1, none⟩ u)
  | .nil, _ => trivial
  | .node b' k v l r, h => by
    obtain ⟨h0, h1, h2⟩ := h
    refine ⟨?_, h1.upd b u, h2.upd b u⟩
    simp only [Tr.ptr, Tr.addr_upd, Tr.ht_upd]
    by_cases hb : b' = b
    · subst hb
      rw [if_pos rfl]
      exact set_block (i := 1) h0 _
    · rw [if_neg hb]
      exact hp_set h0 hb _
theorem rises_upd {b : Nat} {u : Value} {t : Tr} (h : Rises t.toL) : Rises (t.upd b u).toL := by
  rw [Tr.toL_upd]
  unfold Rises
  rw [List.pairwise_map]
  refine h.imp ?_
  intro a c hac
  have e : ∀ e : En, (if e.1 = b then (e.1, e.2.1, u) else e).2.1 = e.2.1 := fun e => by split <;> rfl
  rw [e, e]
  exact hac
structure PutP (cm : Value × Value) (w w' : World) (p : Nat) (t t' : Tr) (key : ByteArray) (u : Value) : Prop where
  tb : Tb cm w' p t'
  kp : Kept (fun i => i = p ∨ i ∈ t.bs) w w'
  nw : ∀ i ∈ t'.bs, i ∈ t.bs ∨ w.heap.size ≤ i
  ls : (∃ e, ent key t.toL = some e ∧ t'.toL = t.toL.map (fun x => if x.1 = e.1 then (x.1, x.2.1, u) else x)) ∨ (ent key t.toL = none ∧ ∃ m, t'.toL = ins (m, key, u) t.toL)
theorem rises_ins {x : En} {l : List En} (h : Rises l) (hn : ∀ e ∈ l, e.2.1 ≠ x.2.1) : Rises (ins x l) := by
  induction l with
  | nil => exact List.pairwise_singleton _ _
  | cons c l ih =>
    have ih' := ih h.tail (fun e he => hn e (by simp [he]))
    cases hk : kl x.2.1 c.2.1
    · have e : ins x (c :: l) = c :: ins x l := ins_high (l := []) (r := l) h hk
      rw [e]
      refine List.pairwise_cons.2 ⟨?_, ih'⟩
      intro y hy
      rw [(ins_perm x l).mem_iff] at hy
      rcases List.mem_cons.1 hy with hy | hy
      · rw [hy]
        cases h2 : kl c.2.1 x.2.1
        · exact absurd (kl_tri h2 hk) (hn c (by simp))
        · rfl
      · exact h.hi y hy
    · have e : ins x (c :: l) = x :: c :: l := by
        have := ins_low (l := []) (r := l) (x := x) (c := c) hk
        simpa [ins_nil] using this
      rw [e]
      refine List.pairwise_cons.2 ⟨?_, h⟩
      intro y hy
      rcases List.mem_cons.1 hy with hy | hy
      · rw [hy]; exact hk
      · exact kl_trans hk (h.hi y hy)
theorem put_end {cm : Value × Value} {w w2 w3 : World} {p : Nat} {t t1 : Tr} {key : ByteArray} {n : Option Addr} (ht : Tb cm w p t) (hq : ent key t.toL = none) (hb : Below w.heap.size w w2)
    (N : w3.heap[p]? = some (.cells #[.pointer t.addr, .int .i64 t.n, cm.1, cm.2] 114 (0, 0)) ∧ t1.At 154 w3 ∧ t1.toL = ins (w2.heap.size, key, .pointer n) t.toL ∧ Kept (fun i => i ∈ t1.bs) (w2.alloc (.cells #[.string key, .pointer n, .pointer none, .pointer none, .int .i64 1] 154)) w3) (o : Obj) :
    PutP cm w (((w3.setCell ⟨p, 0, none⟩ (.pointer t1.addr)).setCell ⟨p, 1, none⟩ (.int .i64 (t.n + 1))).alloc o) p t t1 key (.pointer n) := by
  obtain ⟨n1, n2, n3, n4⟩ := N
  have hs := hb.size
  have hpl := hp_lt ht.blk
  have hp1 : p ∉ t1.bs := by
    rw [bs_ins n3]
    rintro (h | h)
    · simp only at h; omega
    · exact ht.apart h
  have K4 : Kept (fun i => i = p) w3 (((w3.setCell ⟨p, 0, none⟩ (.pointer t1.addr)).setCell ⟨p, 1, none⟩ (.int .i64 (t.n + 1))).alloc o) :=
    (((Kept.refl (fun i => i = p) w3).setCell (p := ⟨p, 0, none⟩) (fun _ => rfl) _).setCell (p := ⟨p, 1, none⟩) (fun _ => rfl) _).alloc _
  refine ⟨⟨?_, n2.kept K4 (fun i hi e => hp1 (e ▸ hi)), ?_, ?_⟩, ?_, ?_, .inr ⟨hq, _, n3⟩⟩
  · rw [n_ins n3]
    have := hp_alloc (set_block (i := 1) (set_block (i := 0) n1 (.pointer t1.addr)) (.int .i64 (t.n + 1))) o
    simpa using this
  · rw [n3]
    exact rises_ins ht.rs (ent_none hq)
  · refine bs_ins_nodup n3 (List.nodup_cons.2 ⟨fun hm => ?_, ht.nd⟩)
    have := ht.at_.lt _ hm
    simp only at this
    omega
  · have k2 : Kept (fun i => i = p ∨ i ∈ t.bs) w (w2.alloc (.cells #[.string key, .pointer n, .pointer none, .pointer none, .int .i64 1] 154)) := ((Kept.ofBelow hb).mono (fun _ _ h => h.elim)).alloc _
    refine (k2.trans n4 ?_).trans K4 (fun i _ e => .inl e)
    intro i hi hm
    rw [bs_ins n3] at hm
    rcases hm with h | h
    · simp only at h; omega
    · exact .inr h
  · intro i hi
    rw [bs_ins n3] at hi
    rcases hi with h | h
    · simp only at h; exact .inr (by omega)
    · exact .inl h
set_option maxHeartbeats 2000000 in
theorem put_any {cm : Value × Value} (p : Nat) (key : ByteArray) (n : Option Addr) (t : Tr) (w : World) (ht : Tb cm w p t) (hn : t.n ≤ 600000) (hk : key.size ≤ 281474976710656) :
    Calls Tryz.prog 45 #[.pointer (some ⟨p, 0, none⟩), .string key, .pointer n] w fun x w' => ∃ t', x = .returned (getV key t.toL) ∧ PutP cm w w' p t t' key (.pointer n) := by
  have G := hid (at_any (some ⟨p, 0, none⟩) key t w (.inr ⟨p, cm, rfl, ht⟩))
  generalize hP : (fun (x : Ending) (w' : World) => ∃ t', x = .returned (getV key t.toL) ∧ PutP cm w w' p t t' key (.pointer n)) = P
  have HP := hid hP
  clear hP
  cases hq : ent key t.toL with
  | some c =>
    obtain ⟨b, k, v⟩ := c
    have G2 := hid (hq ▸ G.out)
    obtain ⟨p', q', h', nd⟩ := ht.at_.mem b k v (ent_some hq).1
    have d1 := (cells5 nd).2.1
    have HE2 := hid hq
    have HT := hid ht
    have HN := hid nd
    have hbl := hp_lt nd
    clear G hq nd hn hk ht
    go_enter Tryz.func45, Tryz.ntmps45
    go_wp2_with (
      go_at_call 83
      refine G2.out.mono ?_
      rintro e w1 ⟨e1, hb⟩
      have e2 : e = .returned (.pointer (some ⟨b, 0, none⟩)) := e1
      subst e2
      have f0 := (hb.cell (p := ⟨b, 1, none⟩) hbl).trans d1
      have ff : ∀ o, w1.frozen? ⟨b, o, none⟩ = false := fun o => free_of_block (hp_below HN.out hb hbl)
      have HB := hid hb
      clear hb e1)
    rw [← HP.out]
    have hb := HB.out
    have ht1 := HT.out.below hb
    have hm : b ∈ t.bs := List.mem_map.2 ⟨(b, k, v), (ent_some HE2.out).1, rfl⟩
    have hpb : p ≠ b := fun e => HT.out.apart (e ▸ hm)
    refine ⟨t.upd b (.pointer n), by rw [getV, HE2.out]; rfl, ⟨?_, ht1.at_.upd b _, rises_upd HT.out.rs, by rw [Tr.bs_upd]; exact HT.out.nd⟩, ?_, fun i hi => .inl (by rw [Tr.bs_upd] at hi; exact hi), .inl ⟨_, HE2.out, Tr.toL_upd b _ t⟩⟩
    · rw [Tr.ptr, Tr.addr_upd, Tr.n_upd]
      exact hp_set ht1.blk hpb _
    · exact ((Kept.ofBelow hb).mono (fun _ _ h => h.elim)).setCell (p := ⟨b, 1, none⟩) (fun _ => .inr hm) _
  | none =>
    have G2 := hid (hq ▸ G.out)
    have HE2 := hid hq
    have HT := hid ht
    obtain ⟨c0, c1, -, -⟩ := cells4 ht.blk
    have hpl := hp_lt ht.blk
    have CL := hid (fun W => clone_any key W hk)
    have hnn := hn
    have hnw : IntKind.i64.wrap ((t.n : Int) + 1) = t.n + 1 := by rw [IntKind.wrap_i64]; omega
    have WI := hid (show ∀ w2, Below w.heap.size w w2 → Calls Tryz.prog 84 #[.pointer t.addr, .pointer (some ⟨w2.heap.size, 0, none⟩)] (w2.alloc (.cells #[.string key, .pointer n, .pointer none, .pointer none, .int .i64 1] 154)) (TPost (ins (w2.heap.size, key, .pointer n) t.toL) (w2.alloc (.cells #[.string key, .pointer n, .pointer none, .pointer none, .int .i64 1] 154))) from by
      intro w2 hb
      have h2 := (ht.below hb).below (below_new w2 (.cells #[.string key, .pointer n, .pointer none, .pointer none, .int .i64 1] 154))
      refine with_any w2.heap.size key (.pointer n) t _ (hp_new w2 _) h2.at_ h2.rs (List.nodup_cons.2 ⟨fun hm => ?_, h2.nd⟩) (by omega)
      have := (ht.below hb).at_.lt _ hm
      omega)
    have HX := hid (show ∀ w2, Below w.heap.size w w2 → ∀ w3 (t1 : Tr), t1.toL = ins (w2.heap.size, key, .pointer n) t.toL → Kept (fun i => i ∈ t1.bs) (w2.alloc (.cells #[.string key, .pointer n, .pointer none, .pointer none, .int .i64 1] 154)) w3 → w3.heap[p]? = some (.cells #[.pointer t.addr, .int .i64 t.n, cm.1, cm.2] 114 (0, 0)) from by
      intro w2 hb w3 t1 e1 k1
      have h2 := (ht.below hb).below (below_new w2 (.cells #[.string key, .pointer n, .pointer none, .pointer none, .int .i64 1] 154))
      refine hp_kept h2.blk k1 ?_
      rw [bs_ins e1]
      rintro (h | h)
      · have := hb.size; simp only at h; omega
      · exact ht.apart h)
    clear G hq hn hk ht
    go_enter Tryz.func45, Tryz.ntmps45
    go_wp2_with (
      go_at_call 83
      refine G2.out.mono ?_
      rintro e w1 ⟨e1, hb⟩
      have e2 : e = .returned (.pointer none) := e1
      subst e2
      have f0 := (hb.cell (p := ⟨p, 0, none⟩) hpl).trans c0
      have HB := hid hb
      clear hb e1)
    go_region_with (first
      | (go_at_call 80
         refine (CL.out w1.drew).mono ?_
         rintro e w2 ⟨rfl, hb⟩
         have hb2 := below_on HB.out (undrew hb)
         have g0 := (hb2.cell (p := ⟨p, 0, none⟩) hpl).trans c0
         have hz : p < w2.heap.size := Nat.lt_of_lt_of_le hpl hb2.size
         have g1 := ((below_new w2 (.cells #[.string key, .pointer n, .pointer none, .pointer none, .int .i64 1] 154)).cell (p := ⟨p, 0, none⟩) hz).trans g0
         have HB2 := hid hb2
         clear hb hb2)
      | (go_at_call 84
         refine (WI.out w2 HB2.out).mono ?_
         rintro e w3 ⟨t1, rfl, hp⟩
         have hblk := HX.out w2 HB2.out w3 t1 hp.2.1 hp.2.2
         have y0 := (cells4 hblk).1
         have y1 := (cells4 hblk).2.1
         have ff : ∀ o, w3.frozen? ⟨p, o, none⟩ = false := fun o => free_of_block hblk
         have N1 := hid (And.intro hblk hp)
         clear hp hblk))
    all_goals
      go_wp2
      rw [← HP.out]
      exact ⟨t1, by rw [getV, HE2.out]; rfl, put_end HT.out HE2.out HB2.out N1.out _⟩
def nx (st : Bool) (last : ByteArray) (l : List En) : Option En := if st then gtrE last l else geqE last l
def lst (last : ByteArray) : Option En → ByteArray
  | none => last
  | some e => e.2.1
structure SB (w : World) (gf gl gt : Nat) (o : Option Addr) (st : Bool) (last : ByteArray) : Prop where
  f : w.heap[gf]? = some (.cells #[.func (.func (if st then 141 else 110)) #[.pointer o] #[]] 152 (0, 0))
  l : Bx w gl last
  t : w.heap[gt]? = some (.cells #[.pointer o] 150 (0, 0))
theorem nx_mem {st : Bool} {last : ByteArray} {l : List En} {e : En} (h : nx st last l = some e) : e ∈ l := by
  unfold nx at h
  split at h
  · exact gtr_mem h
  · exact geq_mem h
set_option maxHeartbeats 2000000 in
theorem step_any (gf gl gt : Nat) (o : Option Addr) (st : Bool) (last : ByteArray) (t : Tr) (w : World) (ht : TO w o t) (hs : SB w gf gl gt o st last) :
    Calls Tryz.prog 140 #[.pointer (some ⟨gf, 0, none⟩), .pointer (some ⟨gl, 0, none⟩), .pointer (some ⟨gt, 0, none⟩)] w fun x w' => x = .returned (optP (nx st last t.toL)) ∧ SB w' gf gl gt o true (lst last (nx st last t.toL)) ∧ Kept (fun k => k = gf ∨ k = gl) w w' := by
  have hmf : ∀ (fn : Fn) (first cap : Array Value) (w : World), (Instr.makeFunc fn first cap).run Tryz.prog w = .ok (.func fn first cap) w := fun _ _ _ _ => rfl
  have n1 : gf ≠ gl := by intro e; subst e; have := hs.f; rw [hs.l] at this; cases this
  have n2 : gf ≠ gt := by intro e; subst e; have := hs.f; rw [hs.t] at this; cases this
  have n3 : gl ≠ gt := by intro e; subst e; have := hs.l; rw [Bx, hs.t] at this; cases this
  have n1' : gl ≠ gf := fun e => n1 e.symm
  have hM := fun (e : En) (he : e ∈ t.toL) => ht.at_.mem e.1 e.2.1 e.2.2 he
  have l1 := hp_lt hs.f
  have l2 := hp_lt hs.l
  have l3 := hp_lt hs.t
  have FIN := hid (show ∀ w1, Below w.heap.size w w1 → ∀ q : Option En, SB ((w1.setCell ⟨gf, 0, none⟩ (.func (.func 141) #[.pointer o] #[])).setCell ⟨gl, 0, none⟩ (.string (lst last q))) gf gl gt o true (lst last q) ∧ Kept (fun k => k = gf ∨ k = gl) w ((w1.setCell ⟨gf, 0, none⟩ (.func (.func 141) #[.pointer o] #[])).setCell ⟨gl, 0, none⟩ (.string (lst last q))) from fun w1 hb q => by
    refine ⟨⟨?_, ?_, ?_⟩, (((Kept.ofBelow hb).mono (fun _ _ h => h.elim)).setCell (p := ⟨gf, 0, none⟩) (fun _ => .inl rfl) _).setCell (p := ⟨gl, 0, none⟩) (fun _ => .inr rfl) _⟩
    · exact hp_set (set_block (i := 0) (hp_below hs.f hb l1) _) n1 _
    · exact set_block (i := 0) (hp_set (hp_below hs.l hb l2) n1' _) _
    · exact hp_set (hp_set (hp_below hs.t hb l3) (fun e => n2 e.symm) _) (fun e => n3 e.symm) _)
  have FIN0 := hid (show ∀ w1, Below w.heap.size w w1 → SB (w1.setCell ⟨gf, 0, none⟩ (.func (.func 141) #[.pointer o] #[])) gf gl gt o true last ∧ Kept (fun k => k = gf ∨ k = gl) w (w1.setCell ⟨gf, 0, none⟩ (.func (.func 141) #[.pointer o] #[])) from fun w1 hb => by
    refine ⟨⟨?_, ?_, ?_⟩, ((Kept.ofBelow hb).mono (fun _ _ h => h.elim)).setCell (p := ⟨gf, 0, none⟩) (fun _ => .inl rfl) _⟩
    · exact set_block (i := 0) (hp_below hs.f hb l1) _
    · exact hp_set (hp_below hs.l hb l2) n1' _
    · exact hp_set (hp_below hs.t hb l3) (fun e => n2 e.symm) _)
  have c0 := cells1 hs.f
  have c1 := cells1 hs.l
  have c2 := cells1 hs.t
  have HC := hid (show ∀ w1, Below w.heap.size w w1 → w1.cell? ⟨gf, 0, none⟩ = w.cell? ⟨gf, 0, none⟩ ∧ (∀ j, w1.frozen? ⟨gf, j, none⟩ = false) ∧ w1.cell? ⟨gl, 0, none⟩ = some (.string last) ∧ (∀ j, w1.frozen? ⟨gl, j, none⟩ = false) ∧ w1.cell? ⟨gt, 0, none⟩ = some (.pointer o) from fun w1 hb =>
    ⟨hb.cell (p := ⟨gf, 0, none⟩) l1, fun j => free_of_block (hp_below hs.f hb l1), (hb.cell (p := ⟨gl, 0, none⟩) l2).trans c1, fun j => free_of_block (hp_below hs.l hb l2), (hb.cell (p := ⟨gt, 0, none⟩) l3).trans c2⟩)
  cases st
  · have G := hid (geq_any o last t w ht)
    have e : nx false last t.toL = geqE last t.toL := rfl
    rw [e]
    have c0' : w.cell? ⟨gf, 0, none⟩ = some (.func (.func 110) #[.pointer o] #[]) := c0
    cases hq : geqE last t.toL with
    | none =>
      have G2 := hid (hq ▸ G.out)
      clear hs ht G hq hM c0 e
      go_enter Tryz.func140, Tryz.ntmps140
      go_wp2_with (
        go_at_call 110
        refine G2.out.mono ?_
        rintro e w1 ⟨e1, hb⟩
        have e2 : e = .returned (.pointer none) := e1
        subst e2
        obtain ⟨z0, z1, z2, z3, z4⟩ := HC.out w1 hb
        rw [c0'] at z0
        have HB := hid hb
        clear hb e1)
      go_ret
      exact ⟨rfl, FIN0.out w1 HB.out⟩
    | some c =>
      obtain ⟨b, k, v⟩ := c
      have G2 := hid (hq ▸ G.out)
      obtain ⟨p', q', h', nd⟩ := hM (b, k, v) (geq_mem hq)
      have d0 := (cells5 nd).1
      have hbl := hp_lt nd
      have nb : b ≠ gf := by intro e; subst e; have := hs.f; rw [nd] at this; cases this
      have nb' : gf ≠ b := fun e => nb e.symm
      clear hs ht G hq hM c0 e nd
      go_enter Tryz.func140, Tryz.ntmps140
      go_wp2_with (
        go_at_call 110
        refine G2.out.mono ?_
        rintro e w1 ⟨e1, hb⟩
        have e2 : e = .returned (.pointer (some ⟨b, 0, none⟩)) := e1
        subst e2
        obtain ⟨z0, z1, z2, z3, z4⟩ := HC.out w1 hb
        rw [c0'] at z0
        have x0 := (hb.cell (p := ⟨b, 0, none⟩) hbl).trans d0
        have HB := hid hb
        clear hb e1)
      go_ret
      exact ⟨rfl, FIN.out w1 HB.out (some (b, k, v))⟩
  · have G := hid (gtr_any o last t w ht)
    have e : nx true last t.toL = gtrE last t.toL := rfl
    rw [e]
    have c0' : w.cell? ⟨gf, 0, none⟩ = some (.func (.func 141) #[.pointer o] #[]) := c0
    cases hq : gtrE last t.toL with
    | none =>
      have G2 := hid (hq ▸ G.out)
      clear hs ht G hq hM c0 e
      go_enter Tryz.func140, Tryz.ntmps140
      go_wp2_with (
        go_at_call 141
        refine G2.out.mono ?_
        rintro e w1 ⟨e1, hb⟩
        have e2 : e = .returned (.pointer none) := e1
        subst e2
        obtain ⟨z0, z1, z2, z3, z4⟩ := HC.out w1 hb
        rw [c0'] at z0
        have HB := hid hb
        clear hb e1)
      go_ret
      exact ⟨rfl, FIN0.out w1 HB.out⟩
    | some c =>
      obtain ⟨b, k, v⟩ := c
      have G2 := hid (hq ▸ G.out)
      obtain ⟨p', q', h', nd⟩ := hM (b, k, v) (gtr_mem hq)
      have d0 := (cells5 nd).1
      have hbl := hp_lt nd
      have nb : b ≠ gf := by intro e; subst e; have := hs.f; rw [nd] at this; cases this
      have nb' : gf ≠ b := fun e => nb e.symm
      clear hs ht G hq hM c0 e nd
      go_enter Tryz.func140, Tryz.ntmps140
      go_wp2_with (
        go_at_call 141
        refine G2.out.mono ?_
        rintro e w1 ⟨e1, hb⟩
        have e2 : e = .returned (.pointer (some ⟨b, 0, none⟩)) := e1
        subst e2
        obtain ⟨z0, z1, z2, z3, z4⟩ := HC.out w1 hb
        rw [c0'] at z0
        have x0 := (hb.cell (p := ⟨b, 0, none⟩) hbl).trans d0
        have HB := hid hb
        clear hb e1)
      go_ret
      exact ⟨rfl, FIN.out w1 HB.out (some (b, k, v))⟩
theorem two' (w : World) (a b : Obj) : ((w.alloc a).alloc b).heap[w.heap.size]? = some a ∧ ((w.alloc a).alloc b).heap[w.heap.size + 1]? = some b ∧ Below w.heap.size w ((w.alloc a).alloc b) := by
  refine ⟨hp_alloc (hp_new w a) b, ?_, (below_new w a).alloc (by simp) b⟩
  have := hp_new (w.alloc a) b
  simpa using this
theorem three (w : World) (a b c : Obj) : (((w.alloc a).alloc b).alloc c).heap[w.heap.size]? = some a ∧ (((w.alloc a).alloc b).alloc c).heap[w.heap.size + 1]? = some b ∧ (((w.alloc a).alloc b).alloc c).heap[w.heap.size + 1 + 1]? = some c ∧ Below w.heap.size w (((w.alloc a).alloc b).alloc c) := by
  obtain ⟨h1, h2, h3⟩ := two' w a b
  refine ⟨hp_alloc h1 c, hp_alloc h2 c, ?_, h3.alloc (by simp; omega) c⟩
  have := hp_new ((w.alloc a).alloc b) c
  simpa using this
set_option maxHeartbeats 2000000 in
theorem steps_any (o : Option Addr) (first : ByteArray) (w : World) :
    Calls Tryz.prog 113 #[.pointer o, .string first] w fun x w' => ∃ gf gl gt, x = .returned (.func (.func 140) #[] #[.pointer (some ⟨gf, 0, none⟩), .pointer (some ⟨gl, 0, none⟩), .pointer (some ⟨gt, 0, none⟩)]) ∧ SB w' gf gl gt o false first ∧ Below w.heap.size w w' ∧ w.heap.size ≤ gf ∧ w.heap.size ≤ gl ∧ w.heap.size ≤ gt := by
  have hmf : ∀ (fn : Fn) (first cap : Array Value) (w : World), (Instr.makeFunc fn first cap).run Tryz.prog w = .ok (.func fn first cap) w := fun _ _ _ _ => rfl
  go_enter Tryz.func113, Tryz.ntmps113
  go_wp2
  go_region
  · obtain ⟨e1, e2, e3, hb⟩ := three w (Obj.cells #[Value.pointer o] 150) (Obj.cells #[Value.string first] 9) (Obj.cells #[Value.func (Fn.func 110) #[Value.pointer o] #[]] 152)
    have HH := hid (And.intro e1 (And.intro e2 (And.intro e3 hb)))
    generalize (((w.alloc (Obj.cells #[Value.pointer o] 150)).alloc (Obj.cells #[Value.string first] 9)).alloc (Obj.cells #[Value.func (Fn.func 110) #[Value.pointer o] #[]] 152)) = W at HH ⊢
    clear e1 e2 e3 hb
    go_wp2
    go_ret
    obtain ⟨e1, e2, e3, hb⟩ := HH.out
    exact ⟨_, _, _, rfl, ⟨e3, e2, e1⟩, hb.drew, by omega, by omega, by omega⟩
  · obtain ⟨e1, e2, e3, hb⟩ := three w (Obj.cells #[Value.pointer o] 150) (Obj.cells #[Value.func (Fn.func 110) #[Value.pointer o] #[]] 152) (Obj.cells #[Value.string first] 9)
    have HH := hid (And.intro e1 (And.intro e2 (And.intro e3 hb)))
    generalize (((w.alloc (Obj.cells #[Value.pointer o] 150)).alloc (Obj.cells #[Value.func (Fn.func 110) #[Value.pointer o] #[]] 152)).alloc (Obj.cells #[Value.string first] 9)) = W at HH ⊢
    clear e1 e2 e3 hb
    go_wp2
    go_ret
    obtain ⟨e1, e2, e3, hb⟩ := HH.out
    exact ⟨_, _, _, rfl, ⟨e2, e3, e1⟩, hb.drew, by omega, by omega, by omega⟩
structure It (w : World) (g1 g2 g3 : Nat) (o : Option Addr) (frm to : ByteArray) : Prop where
  t : w.heap[g1]? = some (.cells #[.pointer o] 150 (0, 0))
  f : Bx w g2 frm
  e : Bx w g3 to
abbrev itV (g1 g2 g3 : Nat) : Value := .func (.func 112) #[] #[.pointer (some ⟨g1, 0, none⟩), .pointer (some ⟨g2, 0, none⟩), .pointer (some ⟨g3, 0, none⟩)]
set_option maxHeartbeats 2000000 in
theorem range_any (o : Option Addr) (frm to : ByteArray) (w : World) (h1 : frm.size ≤ 281474976710656) (h2 : to.size ≤ 281474976710656) :
    Calls Tryz.prog 85 #[.pointer o, .string frm, .string to] w fun x w' => ∃ g1 g2 g3, x = .returned (itV g1 g2 g3) ∧ It w' g1 g2 g3 o frm to ∧ Below w.heap.size w w' ∧ w.heap.size ≤ g1 ∧ w.heap.size ≤ g2 ∧ w.heap.size ≤ g3 := by
  have hmf : ∀ (fn : Fn) (first cap : Array Value) (w : World), (Instr.makeFunc fn first cap).run Tryz.prog w = .ok (.func fn first cap) w := fun _ _ _ _ => rfl
  have C1 := hid (fun W => clone_any frm W h1)
  have C2 := hid (fun W => clone_any to W h2)
  clear h1 h2
  go_enter Tryz.func85, Tryz.ntmps85
  go_wp2_with (first
    | (go_at_call 80
       refine (C1.out (w.alloc (.cells #[.pointer o] 150))).mono ?_
       rintro e w1 ⟨rfl, hb⟩
       have H1 := hid hb
       clear hb C1)
    | (go_at_call 80
       refine (C2.out w1).mono ?_
       rintro e w2 ⟨rfl, hb⟩
       have H2 := hid hb
       clear hb C2))
  go_ret
  have b1 := below_on (below_new w (.cells #[.pointer o] 150)) H1.out
  have b2 := below_on b1 H2.out
  obtain ⟨e1, e2, hb⟩ := two' w2 (Obj.cells #[Value.string frm] 9) (Obj.cells #[Value.string to] 9)
  have hs := b2.size
  refine ⟨_, _, _, rfl, ⟨?_, e1, e2⟩, below_on b2 hb, Nat.le_refl _, by omega, by omega⟩
  have t1 := hp_new w (.cells #[.pointer o] 150)
  have t2 := hp_below t1 H1.out (hp_lt t1)
  have t3 := hp_below t2 H2.out (hp_lt t2)
  exact hp_below t3 hb (hp_lt t3)
theorem least_ex {R : Nat → Prop} : ∀ m, R m → ∃ k, R k ∧ ∀ j, R j → k ≤ j := by
  intro m
  induction m using Nat.strongRecOn with
  | ind m ih =>
    intro hm
    by_cases h : ∃ j, j < m ∧ R j
    · obtain ⟨j, hj, hr⟩ := h
      exact ih j hj hr
    · exact ⟨m, hm, fun j hj => by
        rcases Nat.lt_or_ge j m with h1 | h1
        · exact absurd ⟨j, h1, hj⟩ h
        · exact h1⟩
theorem eps_spec {R : Nat → Prop} (h : ∃ m, R m) : R (Classical.epsilon (fun m => R m ∧ ∀ j, R j → m ≤ j)) ∧ ∀ j, R j → Classical.epsilon (fun m => R m ∧ ∀ j, R j → m ≤ j) ≤ j := by
  obtain ⟨m, hm⟩ := h
  exact Classical.epsilon_spec (p := fun m => R m ∧ ∀ j, R j → m ≤ j) (least_ex m hm)
def Ended (to : ByteArray) (st : Bool) (last : ByteArray) (l : List En) : Prop := ∀ b k v, nx st last l = some (b, k, v) → to ≠ ⟨#[]⟩ ∧ kl to k = true
structure Hd (o : Option Addr) (gf gl gt : Nat) (I : Nat → Bool → ByteArray → Tr → World → Prop) (m : Nat) (i : Value) (w : World) (st : Bool) (last : ByteArray) (t : Tr) : Prop where
  i_ : I m st last t w
  n_ : i = optP (nx st last t.toL)
  sb : SB w gf gl gt o true (lst last (nx st last t.toL))
def RR (o : Option Addr) (gf gl gt : Nat) (I : Nat → Bool → ByteArray → Tr → World → Prop) (i : Value) (w : World) (m : Nat) : Prop := ∃ st last t, Hd o gf gl gt I m i w st last t
theorem leq_eq (a b : ByteArray) : (Op.bytesLess a.toList b.toList || (a.toList == b.toList)) = !kl b a := by
  rw [← gtr_eq a b]
  cases Op.bytesLess a.toList b.toList <;> cases (a.toList == b.toList) <;> rfl
theorem emp_eq {s : ByteArray} (h : s = ⟨#[]⟩) : (s.toList == []) = true := by subst h; simp [Lib.toList_data]
theorem emp_ne {s : ByteArray} (h : s ≠ ⟨#[]⟩) : (s.toList == []) = false := by
  have := keq_false h
  rw [show (⟨#[]⟩ : ByteArray).toList = [] by simp [Lib.toList_data]] at this
  exact this
theorem sbBelow {w w' : World} {gf gl gt : Nat} {o : Option Addr} {st : Bool} {last : ByteArray} (hs : SB w gf gl gt o st last) (hb : Below w.heap.size w w') : SB w' gf gl gt o st last :=
  ⟨hp_below hs.f hb (hp_lt hs.f), hp_below hs.l hb (hp_lt hs.l), hp_below hs.t hb (hp_lt hs.t)⟩
def BoxedX (gf gl gt : Nat) (w w' : World) : Prop := w'.heap[gf]? = w.heap[gf]? ∧ w'.heap[gl]? = w.heap[gl]? ∧ w'.heap[gt]? = w.heap[gt]?
def IterPX (to : ByteArray) (I : Nat → Nat → Nat → Nat → Bool → ByteArray → Tr → World → Prop) (J : World → Prop) : Ending → World → Prop :=
  fun e w' => e = .returned (.tuple #[]) ∧ ((∃ gf gl gt m st last t, I gf gl gt m st last t w' ∧ Ended to st last t.toL) ∨ J w')
theorem BoxedX.sb {w w' : World} {gf gl gt : Nat} {o : Option Addr} {st : Bool} {last : ByteArray} (h : BoxedX gf gl gt w w') (hs : SB w gf gl gt o st last) : SB w' gf gl gt o st last :=
  ⟨h.1.trans hs.f, h.2.1.trans hs.l, h.2.2.trans hs.t⟩
structure BodyY (l : Nat) (o : Option Addr) (frm to : ByteArray) (g1 g2 g3 : Nat) (I : Nat → Nat → Nat → Nat → Bool → ByteArray → Tr → World → Prop) (J : World → Prop) : Prop where
  tb : ∀ {gf gl gt m st last t w}, I gf gl gt m st last t w → TO w o t ∧ Short t
  it : ∀ {gf gl gt m st last t w}, I gf gl gt m st last t w → It w g1 g2 g3 o frm to
  keep : ∀ {gf gl gt m st last t w w' S}, I gf gl gt m st last t w → Kept S w w' → (∀ k, S k → k = gf ∨ k = gl ∨ k = gt) → I gf gl gt m st last t w'
  run : ∀ {gf gl gt m st last t w b k v}, I gf gl gt m st last t w → nx st last t.toL = some (b, k, v) → (to = ⟨#[]⟩ ∨ kl to k = false) →
    ∀ n, YieldAt Fence.wide n Tryz.prog l #[.string k, v] w fun e w' => ∃ r, e = .returned (.bool r) ∧ BoxedX gf gl gt w w' ∧ (r = true → ∃ m' t', m' < m ∧ I gf gl gt m' true k t' w') ∧ (r = false → J w')
theorem keep_belowY {l : Nat} {o : Option Addr} {frm to : ByteArray} {g1 g2 g3 : Nat} {I : Nat → Nat → Nat → Nat → Bool → ByteArray → Tr → World → Prop} {J : World → Prop} (H : BodyY l o frm to g1 g2 g3 I J) {gf gl gt m : Nat} {st : Bool} {last : ByteArray} {t : Tr} {w w' : World} (h : I gf gl gt m st last t w) (hb : Below w.heap.size w w') : I gf gl gt m st last t w' :=
  H.keep h (Kept.ofBelow hb) (fun _ e => e.elim)
theorem step_onY {l : Nat} {o : Option Addr} {frm to : ByteArray} {g1 g2 g3 : Nat} {I : Nat → Nat → Nat → Nat → Bool → ByteArray → Tr → World → Prop} {J : World → Prop} (H : BodyY l o frm to g1 g2 g3 I J) {m gf gl gt : Nat} {st : Bool} {last : ByteArray} {t : Tr} {w : World} (h : I gf gl gt m st last t w) (hs : SB w gf gl gt o st last) :
    Calls Tryz.prog 140 #[.pointer (some ⟨gf, 0, none⟩), .pointer (some ⟨gl, 0, none⟩), .pointer (some ⟨gt, 0, none⟩)] w fun x w' => x = .returned (optP (nx st last t.toL)) ∧ Hd o gf gl gt (I gf gl gt) m (optP (nx st last t.toL)) w' st last t := by
  refine (step_any gf gl gt o st last t w (H.tb h).1 hs).mono ?_
  rintro x w' ⟨rfl, hs', hk⟩
  refine ⟨rfl, H.keep h hk ?_, rfl, hs'⟩
  rintro k (rfl | rfl)
  · exact .inl rfl
  · exact .inr (.inl rfl)
theorem mixed : Tryz.prog.follows .mixedOrders = true := by kernel_rfl
set_option maxHeartbeats 8000000 in
theorem iterY (l : Nat) {o : Option Addr} {frm to : ByteArray} {g1 g2 g3 : Nat} {I : Nat → Nat → Nat → Nat → Bool → ByteArray → Tr → World → Prop} {J : World → Prop} (H : BodyY l o frm to g1 g2 g3 I J) (m : Nat) (t : Tr) (w : World) (h : ∀ gf gl gt w1, Below w.heap.size w w1 → w.heap.size ≤ gf → w.heap.size ≤ gl → w.heap.size ≤ gt → SB w1 gf gl gt o false frm → I gf gl gt m false frm t w1) (hi : It w g1 g2 g3 o frm to) :
    Calls Tryz.prog 112 #[.func (.yield l) #[] #[], .pointer (some ⟨g1, 0, none⟩), .pointer (some ⟨g2, 0, none⟩), .pointer (some ⟨g3, 0, none⟩)] w (IterPX to I J) := by
  have c1 := cells1 hi.t
  have c2 := cells1 hi.f
  have S1 := hid (show Calls Tryz.prog 113 #[.pointer o, .string frm] w fun x w' => ∃ gf gl gt, x = .returned (.func (.func 140) #[] #[.pointer (some ⟨gf, 0, none⟩), .pointer (some ⟨gl, 0, none⟩), .pointer (some ⟨gt, 0, none⟩)]) ∧ Hid (SB w' gf gl gt o false frm ∧ I gf gl gt m false frm t w') from by
    refine (steps_any o frm w).mono ?_
    rintro x w' ⟨gf, gl, gt, rfl, hs, hb, q1, q2, q3⟩
    exact ⟨gf, gl, gt, rfl, hid ⟨hs, h gf gl gt w' hb (by omega) (by omega) (by omega) hs⟩⟩)
  have HH := hid H
  have hmx := mixed
  generalize hP : IterPX to I J = P
  have HP := hid hP
  clear hP h hi H
  go_enter Tryz.func112, Tryz.ntmps112
  go_wp2_with (first
    | (go_at_call 113
       refine S1.out.mono ?_
       rintro e w1 ⟨gf, gl, gt, rfl, N1⟩
       have S2 := hid (step_onY HH.out N1.out.2 N1.out.1)
       clear S1)
    | (go_at_call 140
       refine S2.out.mono ?_
       rintro e w2 ⟨rfl, hd⟩
       have N2 := hid hd
       clear hd S2))
  go_loopw [6] (fun i wr => ∃ m, Hid (RR o gf gl gt (I gf gl gt) i wr m)) (fun i wr => Classical.epsilon (fun m => RR o gf gl gt (I gf gl gt) i wr m ∧ ∀ j, RR o gf gl gt (I gf gl gt) i wr j → m ≤ j))
  case atStart => exact ⟨m, hid ⟨_, _, _, N2.out⟩⟩
  case round =>
    obtain ⟨m0, h0⟩ := hrel
    have hsp := eps_spec ⟨m0, h0.out⟩
    generalize hmm : Classical.epsilon (fun m => RR o gf gl gt (I gf gl gt) _ wr m ∧ ∀ j, RR o gf gl gt (I gf gl gt) _ wr j → m ≤ j) = mm at hsp ⊢
    have HMM := hid hmm
    obtain ⟨⟨st, last, t1, hd0⟩, -⟩ := hsp
    have hd := hid hd0
    have e0 := hd0.n_
    clear hd0 h0 N2 hmm
    cases hq : nx st last t1.toL with
    | none =>
      rw [hq] at e0
      have e1 : _ = Value.pointer none := e0
      subst e1
      have HQ := hid hq
      clear hq e0
      go_wp2_with fail
      go_quiet (fail)
      go_wp2
      go_end0
      rw [← HP.out]
      refine ⟨rfl, .inl ⟨gf, gl, gt, mm, st, last, t1, keep_belowY HH.out hd.out.i_ (blw_drewN (Below.refl _ _)), ?_⟩⟩
      intro b k v e
      rw [HQ.out] at e
      cases e
    | some c =>
      obtain ⟨b, k, v⟩ := c
      rw [hq] at e0
      have e1 : _ = Value.pointer (some ⟨b, 0, none⟩) := e0
      subst e1
      have HQ := hid hq
      obtain ⟨p', q', h', nd⟩ := (HH.out.tb hd.out.i_).1.at_.mem b k v (nx_mem hq)
      have d0 := (cells5 nd).1
      have d1 := (cells5 nd).2.1
      have hbl := hp_lt nd
      have c3 := cells1 (HH.out.it hd.out.i_).e
      have CL := hid (fun W => clone_any k W ((HH.out.tb hd.out.i_).2 _ (nx_mem hq)))
      have SBB := hid (show SB wr gf gl gt o true k from by have h5 := hd.out.sb; rw [hq] at h5; exact h5)
      clear hq e0 nd
      by_cases ht : to = ⟨#[]⟩
      · have b0 := emp_eq ht
        have HT := hid ht
        clear ht
        go_wp2_with fail
        go_quiet (fail)
        have BB := hid (show Below wr.heap.size wr (wr.drewN nq) from blw_drewN (Below.refl _ _))
        generalize wr.drewN nq = W3 at BB ⊢
        have d0' := (BB.out.cell (p := ⟨b, 0, none⟩) hbl).trans d0
        have d1' := (BB.out.cell (p := ⟨b, 1, none⟩) hbl).trans d1
        go_wp2_with fail
        refine (wpIn_wide (n := 5)).1 ?_
        gi_region_with_o (first
          | (refine ⟨trivial, ?_⟩
             gi_at_call 80
             refine (callsIn_wide.2 (CL.out _)).mono ?_
             rintro e w4 ⟨rfl, hb⟩
             have hb4 := below_on BB.out (undrew hb)
             have f0 := (hb4.cell (p := ⟨b, 0, none⟩) hbl).trans d0
             have f1 := (hb4.cell (p := ⟨b, 1, none⟩) hbl).trans d1
             have B4 := hid hb4
             obtain ⟨fn, tmps, assign, body, hy, hR⟩ := HH.out.run (keep_belowY HH.out hd.out.i_ B4.out) HQ.out (.inl HT.out) 4
             have HR := hid hR
             clear hb hb4 hR)
          | (refine HR.out.mono ?_
             rintro e w5 ⟨r, rfl, hbx, ht, hf⟩
             have N5 := hid (And.intro hbx (And.intro ht hf))
             clear hbx ht hf))
        all_goals
          cases r
          · have J5 := hid (N5.out.2.2 rfl)
            clear N5
            go_wp2
            go_end0
            rw [← HP.out]
            exact ⟨rfl, .inr J5.out⟩
          · obtain ⟨m', t', hlt, hI⟩ := N5.out.2.1 rfl
            have S5 := hid (step_onY HH.out hI (N5.out.1.sb (sbBelow SBB.out B4.out)))
            have HLT := hid hlt
            clear hI hlt
            go_wp2_with (
              go_at_call 140
              refine S5.out.mono ?_
              rintro e w6 ⟨rfl, hd6⟩
              have N6 := hid hd6
              clear hd6 S5)
            go_roundw
            case rel => exact ⟨m', hid ⟨_, _, _, N6.out⟩⟩
            case measure =>
              exact Nat.lt_of_le_of_lt ((eps_spec (R := RR o gf gl gt (I gf gl gt) _ w6) ⟨m', _, _, _, N6.out⟩).2 m' ⟨_, _, _, N6.out⟩) (Nat.lt_of_lt_of_eq HLT.out HMM.out.symm)
      · have b0 := emp_ne ht
        have b1 := leq_eq k to
        cases hk : kl to k
        · rw [hk] at b1
          have HT := hid hk
          have b1' : (Op.bytesLess k.toList to.toList || (k.toList == to.toList)) = true := b1
          clear ht hk b1
          go_wp2_with fail
          go_quiet (fail)
          have BB := hid (show Below wr.heap.size wr (wr.drewN nq) from blw_drewN (Below.refl _ _))
          generalize wr.drewN nq = W3 at BB ⊢
          have d0' := (BB.out.cell (p := ⟨b, 0, none⟩) hbl).trans d0
          have d1' := (BB.out.cell (p := ⟨b, 1, none⟩) hbl).trans d1
          go_wp2_with fail
          refine (wpIn_wide (n := 5)).1 ?_
          gi_region_with_o (first
            | (refine ⟨trivial, ?_⟩
               gi_at_call 80
               refine (callsIn_wide.2 (CL.out _)).mono ?_
               rintro e w4 ⟨rfl, hb⟩
               have hb4 := below_on BB.out (undrew hb)
               have f0 := (hb4.cell (p := ⟨b, 0, none⟩) hbl).trans d0
               have f1 := (hb4.cell (p := ⟨b, 1, none⟩) hbl).trans d1
               have B4 := hid hb4
               obtain ⟨fn, tmps, assign, body, hy, hR⟩ := HH.out.run (keep_belowY HH.out hd.out.i_ B4.out) HQ.out (.inr HT.out) 4
               have HR := hid hR
               clear hb hb4 hR)
            | (refine HR.out.mono ?_
               rintro e w5 ⟨r, rfl, hbx, ht, hf⟩
               have N5 := hid (And.intro hbx (And.intro ht hf))
               clear hbx ht hf))
          all_goals
            cases r
            · have J5 := hid (N5.out.2.2 rfl)
              clear N5
              go_wp2
              go_end0
              rw [← HP.out]
              exact ⟨rfl, .inr J5.out⟩
            · obtain ⟨m', t', hlt, hI⟩ := N5.out.2.1 rfl
              have S5 := hid (step_onY HH.out hI (N5.out.1.sb (sbBelow SBB.out B4.out)))
              have HLT := hid hlt
              clear hI hlt
              go_wp2_with (
                go_at_call 140
                refine S5.out.mono ?_
                rintro e w6 ⟨rfl, hd6⟩
                have N6 := hid hd6
                clear hd6 S5)
              go_roundw
              case rel => exact ⟨m', hid ⟨_, _, _, N6.out⟩⟩
              case measure =>
                exact Nat.lt_of_le_of_lt ((eps_spec (R := RR o gf gl gt (I gf gl gt) _ w6) ⟨m', _, _, _, N6.out⟩).2 m' ⟨_, _, _, N6.out⟩) (Nat.lt_of_lt_of_eq HLT.out HMM.out.symm)
        · rw [hk] at b1
          have HT := hid (And.intro ht hk)
          have b1' : (Op.bytesLess k.toList to.toList || (k.toList == to.toList)) = false := b1
          clear ht hk b1
          go_wp2_with fail
          go_quiet (fail)
          go_wp2
          go_end0
          rw [← HP.out]
          refine ⟨rfl, .inl ⟨gf, gl, gt, mm, st, last, t1, keep_belowY HH.out hd.out.i_ (blw_drewN (Below.refl _ _)), ?_⟩⟩
          intro b' k' v' e
          rw [HQ.out] at e
          injection e with e
          injection e with e1 e2
          injection e2 with e2 e3
          subst e2
          exact HT.out
end Go.Proofs.YthcoigbkdbkojabGreat.V
