import Derived.Test.YthjggbcppgbdoabK03
namespace Go.Proofs.Ythjggbcppgbdoab
open Go.RowKit

theorem below_new (w : World) (o : Obj) : Below w.heap.size w (w.alloc o) := (Below.refl _ _).alloc (Nat.le_refl _) _
theorem blw_drewN {B n : Nat} {w w' : World} (h : Below B w w') : Below B w (w'.drewN n) := ⟨h.os, h.tape, h.output, h.size, h.block⟩
theorem below_on {w0 w w1 : World} (h0 : Below w0.heap.size w0 w) (h : Below w.heap.size w w1) : Below w0.heap.size w0 w1 := h0.trans (h.mono h0.size)

theorem sliteClone_any (s : ByteArray) (w : World) (hlim : s.size ≤ 281474976710656) :
    Calls Try.prog 55 #[.string s] w fun e w' => e = .returned (.string s) ∧ Below w.heap.size w w' := Any.stringslite_Clone Try.laysM316 s w hlim

set_option maxRecDepth 100000 in
set_option maxHeartbeats 800000 in
theorem clone_any (s : ByteArray) (w : World) (hlim : s.size ≤ 281474976710656) :
    Calls Try.prog 42 #[.string s] w fun e w' => e = .returned (.string s) ∧ Below w.heap.size w w' := by
  have H := hid (sliteClone_any s w hlim)
  clear hlim
  go_enter Try.func42, Try.ntmps42
  go_wp2_with (go_at_call 55; refine H.out.mono ?_; rintro e w' ⟨rfl, hb⟩; have HB := hid hb; clear hb)
  go_ret
  exact ⟨rfl, HB.out⟩

/-- A table, or none. -/
def TO (w : World) (o : Option Addr) (t : Tr) : Prop := (o = none ∧ t = .nil) ∨ ∃ p cm, o = some ⟨p, 0, none⟩ ∧ Tb cm w p t

theorem TO.below {w w' : World} {o : Option Addr} {t : Tr} (h : TO w o t) (hk : Below w.heap.size w w') : TO w' o t := by
  rcases h with ⟨h1, h2⟩ | ⟨p, cm, h1, h2⟩
  · exact .inl ⟨h1, h2⟩
  · exact .inr ⟨p, cm, h1, h2.below hk⟩
theorem TO.heap {w w' : World} {o : Option Addr} {t : Tr} (e : w'.heap = w.heap) (h : TO w o t) : TO w' o t := by
  rcases h with ⟨h1, h2⟩ | ⟨p, cm, h1, h2⟩
  · exact .inl ⟨h1, h2⟩
  · exact .inr ⟨p, cm, h1, h2.heap e⟩
theorem TO.rs {w : World} {o : Option Addr} {t : Tr} (h : TO w o t) : Rises t.toL := by
  rcases h with ⟨_, rfl⟩ | ⟨p, _, _, h2⟩
  · exact List.Pairwise.nil
  · exact h2.rs
theorem TO.at_ {w : World} {o : Option Addr} {t : Tr} (h : TO w o t) : t.At 105 w := by
  rcases h with ⟨_, rfl⟩ | ⟨p, _, _, h2⟩
  · trivial
  · exact h2.at_

set_option maxRecDepth 100000 in
set_option maxHeartbeats 800000 in
theorem geq_any (o : Option Addr) (text : ByteArray) (t : Tr) (w : World) (ht : TO w o t) :
    Calls Try.prog 59 #[.pointer o, .string text] w fun x w' => x = .returned (optP (geqE text t.toL)) ∧ Below w.heap.size w w' := by
  obtain ⟨W, hW⟩ : ∃ W, W = w.alloc (.cells #[.string text] 9) := ⟨_, rfl⟩
  have L1 := hid (show Calls Try.prog 73 #[.pointer o, .func (.func 74) #[] #[.pointer (some ⟨w.heap.size, 0, none⟩)]] W (fun x w' => x = .returned (optP (geqE text t.toL)) ∧ Below w.heap.size w w') from by
    rw [hW]
    have hb := below_new w (.cells #[.string text] 9)
    rcases ht with ⟨rfl, rfl⟩ | ⟨p, cm, rfl, ht⟩
    · refine (least_nil _ _).mono ?_
      rintro x w' ⟨rfl, rfl⟩
      exact ⟨rfl, hb⟩
    · refine (least45 p w.heap.size text t _ (ht.below hb) (hp_new w _)).mono ?_
      rintro x w' ⟨rfl, n, rfl⟩
      exact ⟨rfl, blw_drewN hb⟩)
  have HW := hid hW
  have hmf : ∀ (fn : Fn) (first cap : Array Value) (w : World), (Instr.makeFunc fn first cap).run Try.prog w = .ok (.func fn first cap) w := fun _ _ _ _ => rfl
  clear ht hW
  go_enter Try.func59, Try.ntmps59
  go_wp2_with (
    go_at_call 73
    rw [← HW.out]
    refine L1.out.mono ?_
    rintro e w1 ⟨rfl, hb⟩
    have HB := hid hb
    clear hb)
  go_ret
  exact ⟨rfl, HB.out⟩

set_option maxRecDepth 100000 in
set_option maxHeartbeats 800000 in
theorem gtr_any (o : Option Addr) (text : ByteArray) (t : Tr) (w : World) (ht : TO w o t) :
    Calls Try.prog 62 #[.pointer o, .string text] w fun x w' => x = .returned (optP (gtrE text t.toL)) ∧ Below w.heap.size w w' := by
  obtain ⟨W, hW⟩ : ∃ W, W = w.alloc (.cells #[.string text] 9) := ⟨_, rfl⟩
  have L1 := hid (show Calls Try.prog 73 #[.pointer o, .func (.func 79) #[] #[.pointer (some ⟨w.heap.size, 0, none⟩)]] W (fun x w' => x = .returned (optP (gtrE text t.toL)) ∧ Below w.heap.size w w') from by
    rw [hW]
    have hb := below_new w (.cells #[.string text] 9)
    rcases ht with ⟨rfl, rfl⟩ | ⟨p, cm, rfl, ht⟩
    · refine (least_nil _ _).mono ?_
      rintro x w' ⟨rfl, rfl⟩
      exact ⟨rfl, hb⟩
    · refine (least42 p w.heap.size text t _ (ht.below hb) (hp_new w _)).mono ?_
      rintro x w' ⟨rfl, n, rfl⟩
      exact ⟨rfl, blw_drewN hb⟩)
  have HW := hid hW
  have hmf : ∀ (fn : Fn) (first cap : Array Value) (w : World), (Instr.makeFunc fn first cap).run Try.prog w = .ok (.func fn first cap) w := fun _ _ _ _ => rfl
  clear ht hW
  go_enter Try.func62, Try.ntmps62
  go_wp2_with (
    go_at_call 73
    rw [← HW.out]
    refine L1.out.mono ?_
    rintro e w1 ⟨rfl, hb⟩
    have HB := hid hb
    clear hb)
  go_ret
  exact ⟨rfl, HB.out⟩


theorem geq_mem {key : ByteArray} {l : List En} {e : En} (h : geqE key l = some e) : e ∈ l := List.mem_of_find?_eq_some h
theorem gtr_mem {key : ByteArray} {l : List En} {e : En} (h : gtrE key l = some e) : e ∈ l := List.mem_of_find?_eq_some h

/-- What at answers, of a list that rises: the entry of the key. -/
theorem ent_eq (key : ByteArray) : ∀ {l : List En}, Rises l → ent key l = (match geqE key l with | some e => if e.2.1 = key then some e else none | none => none)
  | [], _ => rfl
  | c :: l, h => by
    have ih := ent_eq key h.tail
    unfold ent geqE at *
    rw [List.find?_cons, List.find?_cons]
    cases h1 : kl c.2.1 key
    · have hn : ∀ e ∈ l, (e.2.1.toList == key.toList) = false := fun e he => by
        have := kl_le' h1 (h.hi e he)
        exact keq_false (fun e2 => by rw [e2, kl_irrefl] at this; cases this)
      by_cases h2 : c.2.1 = key
      · simp [h2]
      · have hf : l.find? (fun e => e.2.1.toList == key.toList) = none := by
          rw [List.find?_eq_none]; intro e he; rw [hn e he]; simp
        simp [keq_false h2, hf, h2]
    · have h2 := kl_ne h1
      simp [keq_false h2, ih]

theorem ent_some {key : ByteArray} {l : List En} {e : En} (h : ent key l = some e) : e ∈ l ∧ e.2.1 = key := by
  have h1 := List.mem_of_find?_eq_some h
  have h2 := List.find?_some h
  exact ⟨h1, keq_iff.1 h2⟩
theorem ent_none {key : ByteArray} {l : List En} (h : ent key l = none) : ∀ e ∈ l, e.2.1 ≠ key := by
  intro e he e2
  have := List.find?_eq_none.1 h e he
  rw [e2] at this
  simp at this

set_option maxRecDepth 100000 in
set_option maxHeartbeats 2000000 in
theorem at_any (o : Option Addr) (key : ByteArray) (t : Tr) (w : World) (ht : TO w o t) :
    Calls Try.prog 47 #[.pointer o, .string key] w fun x w' => x = .returned (optP (ent key t.toL)) ∧ Below w.heap.size w w' := by
  have G := hid (geq_any o key t w ht)
  have HE := hid (ent_eq key ht.rs)
  have HM := hid (fun (e : En) (he : e ∈ t.toL) => ht.at_.mem e.1 e.2.1 e.2.2 he)
  clear ht
  cases hq : geqE key t.toL with
  | none =>
    have G2 := hid (hq ▸ G.out)
    have HE2 := hid (show ent key t.toL = none by rw [HE.out, hq])
    clear G hq HE
    go_enter Try.func47, Try.ntmps47
    go_wp2_with (
      go_at_call 59
      refine G2.out.mono ?_
      rintro e w1 ⟨e1, hb⟩
      have e2 : e = .returned (.pointer none) := e1
      subst e2
      have HB := hid hb
      clear hb e1)
    go_ret
    exact ⟨by rw [HE2.out]; rfl, HB.out⟩
  | some c =>
    obtain ⟨b, k, v⟩ := c
    have G2 := hid (hq ▸ G.out)
    obtain ⟨p', q', h', nd⟩ := HM.out (b, k, v) (geq_mem hq)
    have d0 := (cells5 nd).1
    by_cases hk : k = key
    · subst hk
      have HE2 := hid (show ent k t.toL = some (b, k, v) by rw [HE.out, hq]; simp)
      have hbl := World.block_lt_of_cell? _ _ d0
      clear G hq HE HM nd
      go_enter Try.func47, Try.ntmps47
      go_wp2_with (
        go_at_call 59
        refine G2.out.mono ?_
        rintro e w1 ⟨e1, hb⟩
        have e2 : e = .returned (.pointer (some ⟨b, 0, none⟩)) := e1
        subst e2
        have f0 := (hb.cell hbl).trans d0
        have HB := hid hb
        clear hb e1)
      go_ret
      exact ⟨by rw [HE2.out]; rfl, HB.out⟩
    · have HE2 := hid (show ent key t.toL = none by rw [HE.out, hq]; simp [hk])
      have hbl := World.block_lt_of_cell? _ _ d0
      have hke := keq_false hk
      clear G hq HE HM nd hk
      go_enter Try.func47, Try.ntmps47
      go_wp2_with (
        go_at_call 59
        refine G2.out.mono ?_
        rintro e w1 ⟨e1, hb⟩
        have e2 : e = .returned (.pointer (some ⟨b, 0, none⟩)) := e1
        subst e2
        have f0 := (hb.cell hbl).trans d0
        have HB := hid hb
        clear hb e1)
      go_ret
      exact ⟨by rw [HE2.out]; rfl, HB.out⟩

end Go.Proofs.Ythjggbcppgbdoab

namespace Go.Proofs.Ythjggbcppgbdoab
open Go.RowKit

/-- A zero value of the table's type. -/
abbrev zv : Value := .pointer none
def getV (key : ByteArray) (l : List En) : Value := match ent key l with | some e => .tuple #[e.2.2, .bool true] | none => .tuple #[zv, .bool false]

set_option maxRecDepth 100000 in
set_option maxHeartbeats 2000000 in
theorem get_any (o : Option Addr) (key : ByteArray) (t : Tr) (w : World) (ht : TO w o t) :
    Calls Try.prog 46 #[.pointer o, .string key] w fun x w' => x = .returned (getV key t.toL) ∧ Below w.heap.size w w' := by
  have G := hid (at_any o key t w ht)
  have HM := hid (fun (e : En) (he : e ∈ t.toL) => ht.at_.mem e.1 e.2.1 e.2.2 he)
  clear ht
  cases hq : ent key t.toL with
  | none =>
    have G2 := hid (hq ▸ G.out)
    have HE2 := hid hq
    clear G hq
    go_enter Try.func46, Try.ntmps46
    go_wp2_with (
      go_at_call 47
      refine G2.out.mono ?_
      rintro e w1 ⟨e1, hb⟩
      have e2 : e = .returned (.pointer none) := e1
      subst e2
      have HB := hid hb
      clear hb e1)
    go_ret2
    exact ⟨by rw [getV, HE2.out]; rfl, below_on HB.out (below_new _ _)⟩
  | some c =>
    obtain ⟨b, k, v⟩ := c
    have G2 := hid (hq ▸ G.out)
    obtain ⟨p', q', h', nd⟩ := HM.out (b, k, v) (ent_some hq).1
    have d0 := (cells5 nd).2.1
    have HE2 := hid hq
    have hbl := World.block_lt_of_cell? _ _ d0
    clear G hq HM nd
    go_enter Try.func46, Try.ntmps46
    go_wp2_with (
      go_at_call 47
      refine G2.out.mono ?_
      rintro e w1 ⟨e1, hb⟩
      have e2 : e = .returned (.pointer (some ⟨b, 0, none⟩)) := e1
      subst e2
      have f0 := (hb.cell hbl).trans d0
      have HB := hid hb
      clear hb e1)
    go_ret2
    exact ⟨by rw [getV, HE2.out]; rfl, HB.out⟩

def nextV (above : ByteArray) (l : List En) : Value := match gtrE above l with | some e => .tuple #[.string e.2.1, .bool true] | none => .tuple #[.string ⟨#[]⟩, .bool false]

/-- Keys are no longer than a text can be. -/
def Short (t : Tr) : Prop := ∀ e ∈ t.toL, e.2.1.size ≤ 281474976710656

end Go.Proofs.Ythjggbcppgbdoab

namespace Go.Proofs.Ythjggbcppgbdoab
open Go.RowKit

def Tr.upd (b : Nat) (u : Value) : Tr → Tr
  | .nil => .nil
  | .node b' k v l r => .node b' k (if b' = b then u else v) (l.upd b u) (r.upd b u)
theorem Tr.addr_upd (b : Nat) (u : Value) (t : Tr) : (t.upd b u).addr = t.addr := by cases t <;> rfl
theorem Tr.ht_upd (b : Nat) (u : Value) : ∀ t : Tr, (t.upd b u).ht = t.ht
  | .nil => rfl
  | .node _ _ _ l r => by simp only [Tr.upd, Tr.ht, Tr.ht_upd b u l, Tr.ht_upd b u r]
theorem Tr.toL_upd (b : Nat) (u : Value) : ∀ t : Tr, (t.upd b u).toL = t.toL.map (fun e => if e.1 = b then (e.1, e.2.1, u) else e)
  | .nil => rfl
  | .node b' k v l r => by
    simp only [Tr.upd, Tr.toL, Tr.toL_upd b u l, Tr.toL_upd b u r, List.map_append, List.map_cons]
    congr 2
    by_cases h : b' = b <;> simp [h]
theorem Tr.bs_upd (b : Nat) (u : Value) (t : Tr) : (t.upd b u).bs = t.bs := by
  unfold Tr.bs blks
  rw [Tr.toL_upd, List.map_map]
  congr 1
  funext e
  simp only [Function.comp]
  split <;> rfl
theorem Tr.n_upd (b : Nat) (u : Value) (t : Tr) : (t.upd b u).n = t.n := by unfold Tr.n; rw [Tr.toL_upd]; simp
theorem Tr.At.upd {w : World} (b : Nat) (u : Value) : ∀ {t : Tr}, t.At 105 w → (t.upd b u).At 105 (w.setCell ⟨b, 1, none⟩ u)
  | .nil, _ => trivial
  | .node b' k v l r, h => by
    obtain ⟨h0, h1, h2⟩ := h
    refine ⟨?_, h1.upd b u, h2.upd b u⟩
    simp only [Tr.ptr, Tr.addr_upd, Tr.ht_upd]
    by_cases hb : b' = b
    · subst hb
      rw [if_pos rfl]
      exact set_block (i := 1) h0 _
    · rw [if_neg hb]
      exact hp_set h0 hb _
theorem rises_upd {b : Nat} {u : Value} {t : Tr} (h : Rises t.toL) : Rises (t.upd b u).toL := by
  rw [Tr.toL_upd]
  unfold Rises
  rw [List.pairwise_map]
  refine h.imp ?_
  intro a c hac
  have e : ∀ e : En, (if e.1 = b then (e.1, e.2.1, u) else e).2.1 = e.2.1 := fun e => by split <;> rfl
  rw [e, e]
  exact hac

/-- What Put leaves. -/
structure PutP (cm : Value × Value) (w w' : World) (p : Nat) (t t' : Tr) (key : ByteArray) (u : Value) : Prop where
  tb : Tb cm w' p t'
  kp : Kept (fun i => i = p ∨ i ∈ t.bs) w w'
  nw : ∀ i ∈ t'.bs, i ∈ t.bs ∨ w.heap.size ≤ i
  ls : (∃ e, ent key t.toL = some e ∧ t'.toL = t.toL.map (fun x => if x.1 = e.1 then (x.1, x.2.1, u) else x)) ∨ (ent key t.toL = none ∧ ∃ m, t'.toL = ins (m, key, u) t.toL)

set_option maxRecDepth 100000 in
set_option maxHeartbeats 800000 in
theorem put_nil (key : ByteArray) (n : Option Addr) (w : World) : Calls Try.prog 27 #[.pointer none, .string key, .pointer n] w fun x w' => x = .returned (.tuple #[zv, .bool false]) ∧ Below w.heap.size w w' := by
  go_enter Try.func27, Try.ntmps27
  go_wp2
  go_ret2
  exact ⟨rfl, below_new _ _⟩

theorem rises_ins {x : En} {l : List En} (h : Rises l) (hn : ∀ e ∈ l, e.2.1 ≠ x.2.1) : Rises (ins x l) := by
  induction l with
  | nil => exact List.pairwise_singleton _ _
  | cons c l ih =>
    have ih' := ih h.tail (fun e he => hn e (by simp [he]))
    cases hk : kl x.2.1 c.2.1
    · have e : ins x (c :: l) = c :: ins x l := ins_high (l := []) (r := l) h hk
      rw [e]
      refine List.pairwise_cons.2 ⟨?_, ih'⟩
      intro y hy
      rw [(ins_perm x l).mem_iff] at hy
      rcases List.mem_cons.1 hy with hy | hy
      · rw [hy]
        cases h2 : kl c.2.1 x.2.1
        · exact absurd (kl_tri h2 hk) (hn c (by simp))
        · rfl
      · exact h.hi y hy
    · have e : ins x (c :: l) = x :: c :: l := by
        have := ins_low (l := []) (r := l) (x := x) (c := c) hk
        simpa [ins_nil] using this
      rw [e]
      refine List.pairwise_cons.2 ⟨?_, h⟩
      intro y hy
      rcases List.mem_cons.1 hy with hy | hy
      · rw [hy]; exact hk
      · exact kl_trans hk (h.hi y hy)

theorem put_end {cm : Value × Value} {w w2 w3 : World} {p : Nat} {t t1 : Tr} {key : ByteArray} {n : Option Addr} (ht : Tb cm w p t) (hq : ent key t.toL = none) (hb : Below w.heap.size w w2)
    (N : w3.heap[p]? = some (.cells #[.pointer t.addr, .int .i64 t.n, cm.1, cm.2] 76 (0, 0)) ∧ t1.At 105 w3 ∧ t1.toL = ins (w2.heap.size, key, .pointer n) t.toL ∧ Kept (fun i => i ∈ t1.bs) (w2.alloc (.cells #[.string key, .pointer n, .pointer none, .pointer none, .int .i64 1] 105)) w3) (o : Obj) :
    PutP cm w (((w3.setCell ⟨p, 0, none⟩ (.pointer t1.addr)).setCell ⟨p, 1, none⟩ (.int .i64 (t.n + 1))).alloc o) p t t1 key (.pointer n) := by
  obtain ⟨n1, n2, n3, n4⟩ := N
  have hs := hb.size
  have hpl := hp_lt ht.blk
  have hp1 : p ∉ t1.bs := by
    rw [bs_ins n3]
    rintro (h | h)
    · simp only at h; omega
    · exact ht.apart h
  have K4 : Kept (fun i => i = p) w3 (((w3.setCell ⟨p, 0, none⟩ (.pointer t1.addr)).setCell ⟨p, 1, none⟩ (.int .i64 (t.n + 1))).alloc o) :=
    (((Kept.refl (fun i => i = p) w3).setCell (p := ⟨p, 0, none⟩) (fun _ => rfl) _).setCell (p := ⟨p, 1, none⟩) (fun _ => rfl) _).alloc _
  refine ⟨⟨?_, n2.kept K4 (fun i hi e => hp1 (e ▸ hi)), ?_, ?_⟩, ?_, ?_, .inr ⟨hq, _, n3⟩⟩
  · rw [n_ins n3]
    have := hp_alloc (set_block (i := 1) (set_block (i := 0) n1 (.pointer t1.addr)) (.int .i64 (t.n + 1))) o
    simpa using this
  · rw [n3]
    exact rises_ins ht.rs (ent_none hq)
  · refine bs_ins_nodup n3 (List.nodup_cons.2 ⟨fun hm => ?_, ht.nd⟩)
    have := ht.at_.lt _ hm
    simp only at this
    omega
  · have k2 : Kept (fun i => i = p ∨ i ∈ t.bs) w (w2.alloc (.cells #[.string key, .pointer n, .pointer none, .pointer none, .int .i64 1] 105)) := ((Kept.ofBelow hb).mono (fun _ _ h => h.elim)).alloc _
    refine (k2.trans n4 ?_).trans K4 (fun i _ e => .inl e)
    intro i hi hm
    rw [bs_ins n3] at hm
    rcases hm with h | h
    · simp only at h; omega
    · exact .inr h
  · intro i hi
    rw [bs_ins n3] at hi
    rcases hi with h | h
    · simp only at h; exact .inr (by omega)
    · exact .inl h

set_option maxRecDepth 100000 in
set_option maxHeartbeats 2000000 in
theorem put_any {cm : Value × Value} (p : Nat) (key : ByteArray) (n : Option Addr) (t : Tr) (w : World) (ht : Tb cm w p t) (hn : t.n ≤ 600000) (hk : key.size ≤ 281474976710656) :
    Calls Try.prog 27 #[.pointer (some ⟨p, 0, none⟩), .string key, .pointer n] w fun x w' => ∃ t', x = .returned (getV key t.toL) ∧ PutP cm w w' p t t' key (.pointer n) := by
  have G := hid (at_any (some ⟨p, 0, none⟩) key t w (.inr ⟨p, cm, rfl, ht⟩))
  generalize hP : (fun (x : Ending) (w' : World) => ∃ t', x = .returned (getV key t.toL) ∧ PutP cm w w' p t t' key (.pointer n)) = P
  have HP := hid hP
  clear hP
  cases hq : ent key t.toL with
  | some c =>
    obtain ⟨b, k, v⟩ := c
    have G2 := hid (hq ▸ G.out)
    obtain ⟨p', q', h', nd⟩ := ht.at_.mem b k v (ent_some hq).1
    have d1 := (cells5 nd).2.1
    have HE2 := hid hq
    have HT := hid ht
    have HN := hid nd
    have hbl := hp_lt nd
    clear G hq nd hn hk ht
    go_enter Try.func27, Try.ntmps27
    go_wp2_with (
      go_at_call 47
      refine G2.out.mono ?_
      rintro e w1 ⟨e1, hb⟩
      have e2 : e = .returned (.pointer (some ⟨b, 0, none⟩)) := e1
      subst e2
      have f0 := (hb.cell (p := ⟨b, 1, none⟩) hbl).trans d1
      have ff : ∀ o, w1.frozen? ⟨b, o, none⟩ = false := fun o => free_of_block (hp_below HN.out hb hbl)
      have HB := hid hb
      clear hb e1)
    rw [← HP.out]
    have hb := HB.out
    have ht1 := HT.out.below hb
    have hm : b ∈ t.bs := List.mem_map.2 ⟨(b, k, v), (ent_some HE2.out).1, rfl⟩
    have hpb : p ≠ b := fun e => HT.out.apart (e ▸ hm)
    refine ⟨t.upd b (.pointer n), by rw [getV, HE2.out]; rfl, ⟨?_, ht1.at_.upd b _, rises_upd HT.out.rs, by rw [Tr.bs_upd]; exact HT.out.nd⟩, ?_, fun i hi => .inl (by rw [Tr.bs_upd] at hi; exact hi), .inl ⟨_, HE2.out, Tr.toL_upd b _ t⟩⟩
    · rw [Tr.ptr, Tr.addr_upd, Tr.n_upd]
      exact hp_set ht1.blk hpb _
    · exact ((Kept.ofBelow hb).mono (fun _ _ h => h.elim)).setCell (p := ⟨b, 1, none⟩) (fun _ => .inr hm) _
  | none =>
    have G2 := hid (hq ▸ G.out)
    have HE2 := hid hq
    have HT := hid ht
    obtain ⟨c0, c1, -, -⟩ := cells4 ht.blk
    have hpl := hp_lt ht.blk
    have CL := hid (fun W => clone_any key W hk)
    have hnn := hn
    have hnw : IntKind.i64.wrap ((t.n : Int) + 1) = t.n + 1 := by rw [IntKind.wrap_i64]; omega
    have WI := hid (show ∀ w2, Below w.heap.size w w2 → Calls Try.prog 48 #[.pointer t.addr, .pointer (some ⟨w2.heap.size, 0, none⟩)] (w2.alloc (.cells #[.string key, .pointer n, .pointer none, .pointer none, .int .i64 1] 105)) (TPost (ins (w2.heap.size, key, .pointer n) t.toL) (w2.alloc (.cells #[.string key, .pointer n, .pointer none, .pointer none, .int .i64 1] 105))) from by
      intro w2 hb
      have h2 := (ht.below hb).below (below_new w2 (.cells #[.string key, .pointer n, .pointer none, .pointer none, .int .i64 1] 105))
      refine with_any w2.heap.size key (.pointer n) t _ (hp_new w2 _) h2.at_ h2.rs (List.nodup_cons.2 ⟨fun hm => ?_, h2.nd⟩) (by omega)
      have := (ht.below hb).at_.lt _ hm
      omega)
    have HX := hid (show ∀ w2, Below w.heap.size w w2 → ∀ w3 (t1 : Tr), t1.toL = ins (w2.heap.size, key, .pointer n) t.toL → Kept (fun i => i ∈ t1.bs) (w2.alloc (.cells #[.string key, .pointer n, .pointer none, .pointer none, .int .i64 1] 105)) w3 → w3.heap[p]? = some (.cells #[.pointer t.addr, .int .i64 t.n, cm.1, cm.2] 76 (0, 0)) from by
      intro w2 hb w3 t1 e1 k1
      have h2 := (ht.below hb).below (below_new w2 (.cells #[.string key, .pointer n, .pointer none, .pointer none, .int .i64 1] 105))
      refine hp_kept h2.blk k1 ?_
      rw [bs_ins e1]
      rintro (h | h)
      · have := hb.size; simp only at h; omega
      · exact ht.apart h)
    clear G hq hn hk ht
    go_enter Try.func27, Try.ntmps27
    go_wp2_with (
      go_at_call 47
      refine G2.out.mono ?_
      rintro e w1 ⟨e1, hb⟩
      have e2 : e = .returned (.pointer none) := e1
      subst e2
      have f0 := (hb.cell (p := ⟨p, 0, none⟩) hpl).trans c0
      have HB := hid hb
      clear hb e1)
    go_region_with (first
      | (go_at_call 42
         refine (CL.out w1.drew).mono ?_
         rintro e w2 ⟨rfl, hb⟩
         have hb2 := below_on HB.out (undrew hb)
         have g0 := (hb2.cell (p := ⟨p, 0, none⟩) hpl).trans c0
         have hz : p < w2.heap.size := Nat.lt_of_lt_of_le hpl hb2.size
         have g1 := ((below_new w2 (.cells #[.string key, .pointer n, .pointer none, .pointer none, .int .i64 1] 105)).cell (p := ⟨p, 0, none⟩) hz).trans g0
         have HB2 := hid hb2
         clear hb hb2)
      | (go_at_call 48
         refine (WI.out w2 HB2.out).mono ?_
         rintro e w3 ⟨t1, rfl, hp⟩
         have hblk := HX.out w2 HB2.out w3 t1 hp.2.1 hp.2.2
         have y0 := (cells4 hblk).1
         have y1 := (cells4 hblk).2.1
         have ff : ∀ o, w3.frozen? ⟨p, o, none⟩ = false := fun o => free_of_block hblk
         have N1 := hid (And.intro hblk hp)
         clear hp hblk))
    all_goals
      go_wp2
      rw [← HP.out]
      exact ⟨t1, by rw [getV, HE2.out]; rfl, put_end HT.out HE2.out HB2.out N1.out _⟩

end Go.Proofs.Ythjggbcppgbdoab

namespace Go.Proofs.Ythjggbcppgbdoab
open Go.RowKit

/-- What Delete leaves. -/
structure DelP (cm : Value × Value) (w w' : World) (p : Nat) (t t' : Tr) (key : ByteArray) : Prop where
  tb : Tb cm w' p t'
  kp : Kept (fun i => i = p ∨ i ∈ t.bs) w w'
  nw : ∀ i ∈ t'.bs, i ∈ t.bs
  ls : t'.toL = del key t.toL

set_option maxRecDepth 100000 in
set_option maxHeartbeats 800000 in
theorem delete_none (o : Option Addr) (key : ByteArray) (t : Tr) (w : World) (ht : TO w o t) (hq : ent key t.toL = none) :
    Calls Try.prog 38 #[.pointer o, .string key] w fun x w' => x = .returned (.tuple #[zv, .bool false]) ∧ Below w.heap.size w w' := by
  have G2 := hid (hq ▸ (at_any o key t w ht))
  clear ht hq
  go_enter Try.func38, Try.ntmps38
  go_wp2_with (
    go_at_call 47
    refine G2.out.mono ?_
    rintro e w1 ⟨e1, hb⟩
    have e2 : e = .returned (.pointer none) := e1
    subst e2
    have HB := hid hb
    clear hb e1)
  go_ret2
  exact ⟨rfl, below_on HB.out (below_new _ _)⟩

theorem rises_blk_key {l : List En} {a b : En} (hr : Rises l) (ha : a ∈ l) (hb : b ∈ l) (hk : a.2.1 = b.2.1) : a = b := by
  induction l with
  | nil => cases ha
  | cons c l ih =>
    rcases List.mem_cons.1 ha with h1 | h1 <;> rcases List.mem_cons.1 hb with h2 | h2
    · rw [h1, h2]
    · exact absurd hk (kl_ne (h1 ▸ hr.hi b h2))
    · exact absurd hk (kl_ne (h2 ▸ hr.hi a h1)).symm
    · exact ih hr.tail h1 h2

theorem len_del {key : ByteArray} : ∀ {l : List En} {e : En}, Rises l → ent key l = some e → (del key l).length + 1 = l.length
  | [], _, _, h => by cases h
  | c :: l, e, hr, h => by
    unfold ent at h
    rw [List.find?_cons] at h
    cases hk : (c.2.1.toList == key.toList)
    · rw [hk] at h
      have := len_del hr.tail h
      simp only [del, List.filter_cons, hk, Bool.not_false, if_true, List.length_cons] at *
      omega
    · have e2 := keq_iff.1 hk
      have hd : del key l = l := del_none (fun x hx => by rw [← e2]; exact (kl_ne (hr.hi x hx)).symm)
      have : del key (c :: l) = del key l := by simp [del, hk]
      rw [this, hd]
      rfl

theorem mem_blks_del {b : Nat} {k : ByteArray} {v : Value} {l : List En} (hn : (blks l).Nodup) (hm : (b, k, v) ∈ l) : b ∉ blks (del k l) := by
  intro h
  unfold blks at h
  obtain ⟨e, he, rfl⟩ := List.mem_map.1 h
  have h1 := mem_del he
  have h2 := (List.mem_filter.1 he).2
  have : e = (e.1, k, v) := by
    clear h h2 he
    induction l with
    | nil => cases h1
    | cons c l ih =>
      simp only [blks_cons, List.nodup_cons] at hn
      rcases List.mem_cons.1 h1 with h3 | h3 <;> rcases List.mem_cons.1 hm with h4 | h4
      · rw [h4]; exact h3
      · exact absurd (List.mem_map.2 ⟨_, h4, by rw [h3]⟩) hn.1
      · exact absurd (List.mem_map.2 ⟨_, h3, by rw [← h4]⟩) hn.1
      · exact ih hn.2 h4 h3
  rw [this] at h2
  simp at h2

set_option maxRecDepth 100000 in
set_option maxHeartbeats 2000000 in
theorem delete_some {cm : Value × Value} (p : Nat) (key : ByteArray) (t : Tr) (w : World) (ht : Tb cm w p t) (hn : t.n ≤ 600000) {b : Nat} {k : ByteArray} {v : Value} (hq : ent key t.toL = some (b, k, v)) :
    Calls Try.prog 38 #[.pointer (some ⟨p, 0, none⟩), .string key] w fun x w' => ∃ t', x = .returned (.tuple #[v, .bool true]) ∧ DelP cm w w' p t t' key := by
  have G2 := hid (hq ▸ (at_any (some ⟨p, 0, none⟩) key t w (.inr ⟨p, cm, rfl, ht⟩)))
  generalize hP : (fun (x : Ending) (w' : World) => ∃ t', x = .returned (.tuple #[v, .bool true]) ∧ DelP cm w w' p t t' key) = P
  have HP := hid hP
  clear hP
  obtain ⟨hm, hk⟩ := ent_some hq
  simp only at hk
  subst hk
  obtain ⟨p', q', h', nd⟩ := ht.at_.mem b k v hm
  have hbl := hp_lt nd
  have hpl := hp_lt ht.blk
  have hnw : IntKind.i64.wrap ((t.n : Int) - 1) = t.n - 1 := by rw [IntKind.wrap_i64]; omega
  have c0 := (cells4 ht.blk).1
  have hbm : b ∈ t.bs := List.mem_map.2 ⟨(b, k, v), hm, rfl⟩
  have hpb : p ≠ b := fun e => ht.apart (e ▸ hbm)
  have WI := hid (show ∀ w1, Below w.heap.size w w1 → Calls Try.prog 52 #[.pointer t.addr, .string k] w1 (TPost (del k t.toL) w1) from fun w1 hb => without_any t w1 k (ht.below hb).at_ ht.rs ht.nd (by omega) ⟨_, hm, rfl⟩)
  have HX := hid (show ∀ w1, Below w.heap.size w w1 → ∀ w2 (t1 : Tr), t1.toL = del k t.toL → Kept (fun i => i ∈ t1.bs) w1 w2 → w2.heap[p]? = some (.cells #[.pointer t.addr, .int .i64 t.n, cm.1, cm.2] 76 (0, 0)) ∧ Nd w2 b k v (.pointer p') (.pointer q') (.int .i64 h') from by
    intro w1 hb w2 t1 e1 k1
    have hsub := (bs_sub e1).subset
    refine ⟨hp_kept (ht.below hb).blk k1 (fun h => ht.apart (hsub h)), hp_kept (hp_below nd hb hbl) k1 ?_⟩
    rw [bs_of e1]
    exact mem_blks_del ht.nd hm)
  have HT := hid (And.intro ht (And.intro hq nd))
  clear ht hq nd hn hm
  go_enter Try.func38, Try.ntmps38
  go_wp2_with (first
    | (go_at_call 47
       refine G2.out.mono ?_
       rintro e w1 ⟨e1, hb⟩
       have e2 : e = .returned (.pointer (some ⟨b, 0, none⟩)) := e1
       subst e2
       have f0 := (hb.cell (p := ⟨p, 0, none⟩) hpl).trans c0
       have HB := hid hb
       clear hb e1)
    | (go_at_call 52
       refine (WI.out w1 HB.out).mono ?_
       rintro e w2 ⟨t1, rfl, hp⟩
       obtain ⟨hblk, hnd⟩ := HX.out w1 HB.out w2 t1 hp.2.1 hp.2.2
       have y0 := (cells4 hblk).1
       have y1 := (cells4 hblk).2.1
       have z1 := (cells5 hnd).2.1
       have ff : ∀ o, w2.frozen? ⟨p, o, none⟩ = false := fun o => free_of_block hblk
       have N1 := hid (And.intro hblk hp)
       clear hp hblk hnd))
  rw [← HP.out]
  obtain ⟨n1, n2, n3, n4⟩ := N1.out
  obtain ⟨ht, hq, nd⟩ := HT.out
  have hb := HB.out
  have hsub := (bs_sub n3).subset
  have K4 : Kept (fun i => i = p) w2 ((w2.setCell ⟨p, 0, none⟩ (.pointer t1.addr)).setCell ⟨p, 1, none⟩ (.int .i64 ((t.n : Int) - 1))) :=
    ((Kept.refl (fun i => i = p) w2).setCell (p := ⟨p, 0, none⟩) (fun _ => rfl) _).setCell (p := ⟨p, 1, none⟩) (fun _ => rfl) _
  refine ⟨t1, rfl, ⟨?_, n2.kept K4 (fun i hi e => ht.apart (e ▸ hsub hi)), by rw [n3]; exact ht.rs.del k, (bs_sub n3).nodup ht.nd⟩, ?_, fun i hi => hsub hi, n3⟩
  · have e : (t1.n : Int) = (t.n : Int) - 1 := by
      have := len_del ht.rs hq
      rw [n_of n3]
      unfold Tr.n
      omega
    rw [e]
    have := set_block (i := 1) (set_block (i := 0) n1 (.pointer t1.addr)) (.int .i64 ((t.n : Int) - 1))
    simpa using this
  · exact (((Kept.ofBelow hb).mono (fun _ _ h => h.elim)).trans n4 (fun i _ e => .inr (hsub e))).trans K4 (fun i _ e => .inl e)

end Go.Proofs.Ythjggbcppgbdoab
