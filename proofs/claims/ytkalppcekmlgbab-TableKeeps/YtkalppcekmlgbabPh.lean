import Derived.Test.YtkalppcekmlgbabPg
import Derived.Test.YtkalppcekmlgbabLays
namespace Go.Proofs.Ytkalppcekmlgbab
open Go.RowKit

theorem below_new (w : World) (o : Obj) : Below w.heap.size w (w.alloc o) := (Below.refl _ _).alloc (Nat.le_refl _) _
theorem blw_drewN {B n : Nat} {w w' : World} (h : Below B w w') : Below B w (w'.drewN n) := ⟨h.os, h.tape, h.output, h.size, h.block⟩
theorem below_on {w0 w w1 : World} (h0 : Below w0.heap.size w0 w) (h : Below w.heap.size w w1) : Below w0.heap.size w0 w1 := h0.trans (h.mono h0.size)

theorem sliteClone_any (s : ByteArray) (w : World) (hlim : s.size ≤ 281474976710656) :
    Calls Try.prog 45 #[.string s] w fun e w' => e = .returned (.string s) ∧ Below w.heap.size w w' := Any.stringslite_Clone Try.laysM316 s w hlim

set_option maxRecDepth 100000 in
set_option maxHeartbeats 800000 in
theorem clone_any (s : ByteArray) (w : World) (hlim : s.size ≤ 281474976710656) :
    Calls Try.prog 28 #[.string s] w fun e w' => e = .returned (.string s) ∧ Below w.heap.size w w' := by
  have H := hid (sliteClone_any s w hlim)
  clear hlim
  go_enter Try.func28, Try.ntmps28
  go_wp2_with (go_at_call 45; refine H.out.mono ?_; rintro e w' ⟨rfl, hb⟩; have HB := hid hb; clear hb)
  go_ret
  exact ⟨rfl, HB.out⟩

/-- A table, or none. -/
def TO (w : World) (o : Option Addr) (t : Tr) : Prop := (o = none ∧ t = .nil) ∨ ∃ p, o = some ⟨p, 0, none⟩ ∧ Tb w p t

theorem TO.below {w w' : World} {o : Option Addr} {t : Tr} (h : TO w o t) (hk : Below w.heap.size w w') : TO w' o t := by
  rcases h with ⟨h1, h2⟩ | ⟨p, h1, h2⟩
  · exact .inl ⟨h1, h2⟩
  · exact .inr ⟨p, h1, h2.below hk⟩
theorem TO.heap {w w' : World} {o : Option Addr} {t : Tr} (e : w'.heap = w.heap) (h : TO w o t) : TO w' o t := by
  rcases h with ⟨h1, h2⟩ | ⟨p, h1, h2⟩
  · exact .inl ⟨h1, h2⟩
  · exact .inr ⟨p, h1, h2.heap e⟩
theorem TO.rs {w : World} {o : Option Addr} {t : Tr} (h : TO w o t) : Rises t.toL := by
  rcases h with ⟨_, rfl⟩ | ⟨p, _, h2⟩
  · exact List.Pairwise.nil
  · exact h2.rs
theorem TO.at_ {w : World} {o : Option Addr} {t : Tr} (h : TO w o t) : t.At 93 w := by
  rcases h with ⟨_, rfl⟩ | ⟨p, _, h2⟩
  · trivial
  · exact h2.at_

set_option maxRecDepth 100000 in
set_option maxHeartbeats 800000 in
theorem geq_any (o : Option Addr) (text : ByteArray) (t : Tr) (w : World) (ht : TO w o t) :
    Calls Try.prog 55 #[.pointer o, .string text] w fun x w' => x = .returned (optP (geqE text t.toL)) ∧ Below w.heap.size w w' := by
  obtain ⟨W, hW⟩ : ∃ W, W = w.alloc (.cells #[.string text] 9) := ⟨_, rfl⟩
  have L1 := hid (show Calls Try.prog 66 #[.pointer o, .func (.func 82) #[] #[.pointer (some ⟨w.heap.size, 0, none⟩)]] W (fun x w' => x = .returned (optP (geqE text t.toL)) ∧ Below w.heap.size w w') from by
    rw [hW]
    have hb := below_new w (.cells #[.string text] 9)
    rcases ht with ⟨rfl, rfl⟩ | ⟨p, rfl, ht⟩
    · refine (least_nil _ _).mono ?_
      rintro x w' ⟨rfl, rfl⟩
      exact ⟨rfl, hb⟩
    · refine (least45 p w.heap.size text t _ (ht.below hb) (hp_new w _)).mono ?_
      rintro x w' ⟨rfl, n, rfl⟩
      exact ⟨rfl, blw_drewN hb⟩)
  have HW := hid hW
  have hmf : ∀ (fn : Fn) (first cap : Array Value) (w : World), (Instr.makeFunc fn first cap).run Try.prog w = .ok (.func fn first cap) w := fun _ _ _ _ => rfl
  clear ht hW
  go_enter Try.func55, Try.ntmps55
  go_wp2_with (
    go_at_call 66
    rw [← HW.out]
    refine L1.out.mono ?_
    rintro e w1 ⟨rfl, hb⟩
    have HB := hid hb
    clear hb)
  go_ret
  exact ⟨rfl, HB.out⟩

set_option maxRecDepth 100000 in
set_option maxHeartbeats 800000 in
theorem gtr_any (o : Option Addr) (text : ByteArray) (t : Tr) (w : World) (ht : TO w o t) :
    Calls Try.prog 48 #[.pointer o, .string text] w fun x w' => x = .returned (optP (gtrE text t.toL)) ∧ Below w.heap.size w w' := by
  obtain ⟨W, hW⟩ : ∃ W, W = w.alloc (.cells #[.string text] 9) := ⟨_, rfl⟩
  have L1 := hid (show Calls Try.prog 66 #[.pointer o, .func (.func 67) #[] #[.pointer (some ⟨w.heap.size, 0, none⟩)]] W (fun x w' => x = .returned (optP (gtrE text t.toL)) ∧ Below w.heap.size w w') from by
    rw [hW]
    have hb := below_new w (.cells #[.string text] 9)
    rcases ht with ⟨rfl, rfl⟩ | ⟨p, rfl, ht⟩
    · refine (least_nil _ _).mono ?_
      rintro x w' ⟨rfl, rfl⟩
      exact ⟨rfl, hb⟩
    · refine (least42 p w.heap.size text t _ (ht.below hb) (hp_new w _)).mono ?_
      rintro x w' ⟨rfl, n, rfl⟩
      exact ⟨rfl, blw_drewN hb⟩)
  have HW := hid hW
  have hmf : ∀ (fn : Fn) (first cap : Array Value) (w : World), (Instr.makeFunc fn first cap).run Try.prog w = .ok (.func fn first cap) w := fun _ _ _ _ => rfl
  clear ht hW
  go_enter Try.func48, Try.ntmps48
  go_wp2_with (
    go_at_call 66
    rw [← HW.out]
    refine L1.out.mono ?_
    rintro e w1 ⟨rfl, hb⟩
    have HB := hid hb
    clear hb)
  go_ret
  exact ⟨rfl, HB.out⟩


theorem geq_mem {key : ByteArray} {l : List En} {e : En} (h : geqE key l = some e) : e ∈ l := List.mem_of_find?_eq_some h
theorem gtr_mem {key : ByteArray} {l : List En} {e : En} (h : gtrE key l = some e) : e ∈ l := List.mem_of_find?_eq_some h

/-- What at answers, of a list that rises: the entry of the key. -/
theorem ent_eq (key : ByteArray) : ∀ {l : List En}, Rises l → ent key l = (match geqE key l with | some e => if e.2.1 = key then some e else none | none => none)
  | [], _ => rfl
  | c :: l, h => by
    have ih := ent_eq key h.tail
    unfold ent geqE at *
    rw [List.find?_cons, List.find?_cons]
    cases h1 : kl c.2.1 key
    · have hn : ∀ e ∈ l, (e.2.1.toList == key.toList) = false := fun e he => by
        have := kl_le' h1 (h.hi e he)
        exact keq_false (fun e2 => by rw [e2, kl_irrefl] at this; cases this)
      by_cases h2 : c.2.1 = key
      · simp [h2]
      · have hf : l.find? (fun e => e.2.1.toList == key.toList) = none := by
          rw [List.find?_eq_none]; intro e he; rw [hn e he]; simp
        simp [keq_false h2, hf, h2]
    · have h2 := kl_ne h1
      simp [keq_false h2, ih]

theorem ent_some {key : ByteArray} {l : List En} {e : En} (h : ent key l = some e) : e ∈ l ∧ e.2.1 = key := by
  have h1 := List.mem_of_find?_eq_some h
  have h2 := List.find?_some h
  exact ⟨h1, keq_iff.1 h2⟩
theorem ent_none {key : ByteArray} {l : List En} (h : ent key l = none) : ∀ e ∈ l, e.2.1 ≠ key := by
  intro e he e2
  have := List.find?_eq_none.1 h e he
  rw [e2] at this
  simp at this

set_option maxRecDepth 100000 in
set_option maxHeartbeats 2000000 in
theorem at_any (o : Option Addr) (key : ByteArray) (t : Tr) (w : World) (ht : TO w o t) :
    Calls Try.prog 38 #[.pointer o, .string key] w fun x w' => x = .returned (optP (ent key t.toL)) ∧ Below w.heap.size w w' := by
  have G := hid (geq_any o key t w ht)
  have HE := hid (ent_eq key ht.rs)
  have HM := hid (fun (e : En) (he : e ∈ t.toL) => ht.at_.mem e.1 e.2.1 e.2.2 he)
  clear ht
  cases hq : geqE key t.toL with
  | none =>
    have G2 := hid (hq ▸ G.out)
    have HE2 := hid (show ent key t.toL = none by rw [HE.out, hq])
    clear G hq HE
    go_enter Try.func38, Try.ntmps38
    go_wp2_with (
      go_at_call 55
      refine G2.out.mono ?_
      rintro e w1 ⟨e1, hb⟩
      have e2 : e = .returned (.pointer none) := e1
      subst e2
      have HB := hid hb
      clear hb e1)
    go_ret
    exact ⟨by rw [HE2.out]; rfl, HB.out⟩
  | some c =>
    obtain ⟨b, k, v⟩ := c
    have G2 := hid (hq ▸ G.out)
    obtain ⟨p', q', h', nd⟩ := HM.out (b, k, v) (geq_mem hq)
    have d0 := (cells5 nd).1
    by_cases hk : k = key
    · subst hk
      have HE2 := hid (show ent k t.toL = some (b, k, v) by rw [HE.out, hq]; simp)
      have hbl := World.block_lt_of_cell? _ _ d0
      clear G hq HE HM nd
      go_enter Try.func38, Try.ntmps38
      go_wp2_with (
        go_at_call 55
        refine G2.out.mono ?_
        rintro e w1 ⟨e1, hb⟩
        have e2 : e = .returned (.pointer (some ⟨b, 0, none⟩)) := e1
        subst e2
        have f0 := (hb.cell hbl).trans d0
        have HB := hid hb
        clear hb e1)
      go_ret
      exact ⟨by rw [HE2.out]; rfl, HB.out⟩
    · have HE2 := hid (show ent key t.toL = none by rw [HE.out, hq]; simp [hk])
      have hbl := World.block_lt_of_cell? _ _ d0
      have hke := keq_false hk
      clear G hq HE HM nd hk
      go_enter Try.func38, Try.ntmps38
      go_wp2_with (
        go_at_call 55
        refine G2.out.mono ?_
        rintro e w1 ⟨e1, hb⟩
        have e2 : e = .returned (.pointer (some ⟨b, 0, none⟩)) := e1
        subst e2
        have f0 := (hb.cell hbl).trans d0
        have HB := hid hb
        clear hb e1)
      go_ret
      exact ⟨by rw [HE2.out]; rfl, HB.out⟩

end Go.Proofs.Ytkalppcekmlgbab
