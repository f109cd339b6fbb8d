import Derived.Test.YtkalppcekmlgbabPf
namespace Go.Proofs.Ytkalppcekmlgbab
open Go.RowKit

/-- A table in the heap. -/
structure Tb (w : World) (p : Nat) (t : Tr) : Prop where
  blk : w.heap[p]? = some (.cells #[t.ptr, .int .i64 t.n] 89 (0, 0))
  at_ : t.At 93 w
  rs : Rises t.toL
  nd : t.bs.Nodup

theorem Tb.kept {w w' : World} {p : Nat} {t : Tr} {S : Nat → Prop} (h : Tb w p t) (hk : Kept S w w') (h0 : ¬ S p) (h1 : ∀ i ∈ t.bs, ¬ S i) : Tb w' p t :=
  ⟨hp_kept h.blk hk h0, h.at_.kept hk h1, h.rs, h.nd⟩
theorem Tb.below {w w' : World} {p : Nat} {t : Tr} (h : Tb w p t) (hk : Below w.heap.size w w') : Tb w' p t :=
  h.kept (Kept.ofBelow hk) (fun e => e) (fun _ _ e => e)
theorem Tb.heap {w w' : World} {p : Nat} {t : Tr} (e : w'.heap = w.heap) (h : Tb w p t) : Tb w' p t := ⟨by rw [e]; exact h.blk, h.at_.heap e, h.rs, h.nd⟩

theorem bs_mem {t : Tr} {i : Nat} (h : i ∈ t.bs) : ∃ k v, (i, k, v) ∈ t.toL := by
  unfold Tr.bs blks at h
  obtain ⟨⟨a, k, v⟩, h1, rfl⟩ := List.mem_map.1 h
  exact ⟨k, v, h1⟩
theorem Tb.apart {w : World} {p : Nat} {t : Tr} (h : Tb w p t) : p ∉ t.bs := by
  intro hm
  obtain ⟨k, v, hm⟩ := bs_mem hm
  obtain ⟨a, b, c, e⟩ := h.at_.mem p k v hm
  have := h.blk
  rw [e] at this
  cases this

def optP : Option En → Value
  | none => .pointer none
  | some e => .pointer (some ⟨e.1, 0, none⟩)

/-- The first at or above a text; the first above it. -/
def geqE (text : ByteArray) (l : List En) : Option En := l.find? (fun e => !kl e.2.1 text)
def gtrE (text : ByteArray) (l : List En) : Option En := l.find? (fun e => kl text e.2.1)

theorem find_low {p : En → Bool} {l r : List En} {c : En} (h : p c = true) (o : Option En) : ((l ++ c :: r).find? p).or o = (l.find? p).or (some c) := by
  rw [List.find?_append, List.find?_cons, h]
  cases l.find? p <;> rfl
theorem find_high {p : En → Bool} {l r : List En} {c : En} (h : p c = false) (hl : ∀ e ∈ l, p e = true → p c = true) (o : Option En) : ((l ++ c :: r).find? p).or o = (r.find? p).or o := by
  have : l.find? p = none := by
    rw [List.find?_eq_none]
    intro e he hp
    rw [hl e he hp] at h
    cases h
  rw [List.find?_append, List.find?_cons, h, this]
  rfl

theorem gtr_eq (a b : ByteArray) : (!Op.bytesLess a.toList b.toList && !(a.toList == b.toList)) = kl b a := by
  cases h1 : kl a b
  · cases h2 : kl b a
    · have := kl_tri h1 h2
      subst this
      simp
    · have h1' : Op.bytesLess a.toList b.toList = false := h1
      rw [h1', keq_false (kl_ne h2).symm]; rfl
  · have h1' : Op.bytesLess a.toList b.toList = true := h1
    rw [h1', kl_asymm h1]; rfl

/-- A captured text's box. -/
abbrev Bx (w : World) (g : Nat) (s : ByteArray) : Prop := w.heap[g]? = some (.cells #[.string s] 9 (0, 0))

set_option maxRecDepth 100000 in
set_option maxHeartbeats 800000 in
theorem far42 (g : Nat) (k text : ByteArray) (w : World) (h : Bx w g text) : Calls Try.prog 67 #[.string k, .pointer (some ⟨g, 0, none⟩)] w fun x w' => x = .returned (.bool (kl text k)) ∧ w' = w := by
  have c0 := cells1 h
  have H := hid (gtr_eq k text)
  clear h
  go_enter Try.func67, Try.ntmps67
  go_wp2
  go_ret
  exact ⟨by rw [← H.out]; rfl, rfl⟩

set_option maxRecDepth 100000 in
set_option maxHeartbeats 800000 in
theorem far45 (g : Nat) (k text : ByteArray) (w : World) (h : Bx w g text) : Calls Try.prog 82 #[.string k, .pointer (some ⟨g, 0, none⟩)] w fun x w' => x = .returned (.bool (!kl k text)) ∧ w' = w := by
  have c0 := cells1 h
  clear h
  go_enter Try.func82, Try.ntmps82
  go_wp2
  go_ret
  exact ⟨rfl, rfl⟩

set_option maxRecDepth 100000 in
set_option maxHeartbeats 800000 in
theorem least_nil (f : Value) (w : World) : Calls Try.prog 66 #[.pointer none, f] w fun x w' => x = .returned (.pointer none) ∧ w' = w := by
  go_enter Try.func66, Try.ntmps66
  go_wp2
  go_ret
  exact ⟨rfl, rfl⟩

theorem far_mono42 {l r : List En} {c : En} {text : ByteArray} (h : Rises (l ++ c :: r)) : ∀ e ∈ l, kl text e.2.1 = true → kl text c.2.1 = true := fun e he hp => kl_trans hp (h.lo e he)
theorem far_mono45 {l r : List En} {c : En} {text : ByteArray} (h : Rises (l ++ c :: r)) : ∀ e ∈ l, (!kl e.2.1 text) = true → (!kl c.2.1 text) = true := fun e he hp => by
  cases h2 : kl c.2.1 text
  · rfl
  · rw [kl_trans (h.lo e he) h2] at hp; cases hp

theorem hOf_heap {w w' : World} (e : w'.heap = w.heap) (v : Value) : hOf w' v = hOf w v := by
  have : ∀ a, w'.cell? a = w.cell? a := fun a => World.cell?_of_block (by rw [e])
  unfold hOf
  cases v <;> try rfl
  rename_i o
  cases o <;> try rfl
  simp only [this]

set_option maxRecDepth 100000 in
set_option maxHeartbeats 2000000 in
theorem least42 (p g : Nat) (text : ByteArray) (t : Tr) (w : World) (ht : Tb w p t) (hg : Bx w g text) :
    Calls Try.prog 66 #[.pointer (some ⟨p, 0, none⟩), .func (.func 67) #[] #[.pointer (some ⟨g, 0, none⟩)]] w fun x w' => x = .returned (optP (gtrE text t.toL)) ∧ ∃ n, w' = w.drewN n := by
  obtain ⟨c0, c1⟩ := cells2 ht.blk
  generalize hP : (fun (x : Ending) (w' : World) => x = .returned (optP (gtrE text t.toL)) ∧ ∃ n, w' = w.drewN n) = P
  have HP := hid hP
  have HT := hid (And.intro ht hg)
  clear hP ht hg c1
  go_enter Try.func66, Try.ntmps66
  go_wp2
  go_loopw [5, 6] (fun f i wr => ∃ (s : Tr) (o : Option En), f = optP o ∧ i = s.ptr ∧ Hid (wr.heap = w.heap ∧ (∃ n, wr = w.drewN n) ∧ s.At 93 wr ∧ Rises s.toL ∧ (s.toL.find? (fun e => kl text e.2.1)).or o = gtrE text t.toL)) (fun _ i wr => hOf wr i)
  case atStart => exact ⟨t, none, rfl, rfl, hid ⟨rfl, ⟨0, rfl⟩, HT.out.1.at_, HT.out.1.rs, by simp [gtrE]⟩⟩
  case round =>
    obtain ⟨s, o, rfl, rfl, hr⟩ := hrel
    cases s with
    | nil =>
      show Code.wp _ _ _ { tmps := #[_, _, _, _, _, _, .pointer none, _, _, _, _, _, _, _, _, _, _, _, _, _, _, _, _, _, _, _, _, _, _, _, _], defers := _ } _
      go_wp2
      rw [← HP.out]
      refine ⟨?_, hr.out.2.1⟩
      have := hr.out.2.2.2.2
      simp only [Tr.toL, List.find?_nil, Option.none_or] at this
      rw [← this]
      rfl
    | node b k v l r =>
      show Code.wp _ _ _ { tmps := #[_, _, _, _, _, _, .pointer (some ⟨b, 0, none⟩), _, _, _, _, _, _, _, _, _, _, _, _, _, _, _, _, _, _, _, _, _, _, _, _], defers := _ } _
      have d0 := (cells5 hr.out.2.2.1.1).1
      have d2 := (cells5 hr.out.2.2.1.1).2.2.1
      have d3 := (cells5 hr.out.2.2.1.1).2.2.2.1
      have hh : hOf wr (.pointer (some ⟨b, 0, none⟩)) = (Tr.node b k v l r).ht := hOf_at hr.out.2.2.1
      have e1 : hOf wr l.ptr = l.ht := hOf_at hr.out.2.2.1.2.1
      have e2 : hOf wr r.ptr = r.ht := hOf_at hr.out.2.2.1.2.2
      have HM := hid (show hOf wr l.ptr < hOf wr (.pointer (some ⟨b, 0, none⟩)) ∧ hOf wr r.ptr < hOf wr (.pointer (some ⟨b, 0, none⟩)) from by
        rw [hh, e1, e2]
        simp only [Tr.ht]
        omega)
      clear hh e1 e2
      have FF := hid (far42 g k text wr (by rw [Bx, hr.out.1]; exact HT.out.2))
      cases hf : (kl text k)
      · have F2 := hid (hf ▸ FF.out)
        have HF := hid hf
        clear FF hf
        go_wp2_with (
          go_at_call 67
          refine F2.out.mono ?_
          rintro e w1 ⟨rfl, e1⟩
          rw [e1]
          clear e1 w1)
        go_roundw
        case rel =>
          obtain ⟨q1, q2, q3, q4, q5⟩ := hr.out
          have q4' : Rises (l.toL ++ (b, k, v) :: r.toL) := q4
          refine ⟨r, o, rfl, rfl, hid ⟨q1, q2, q3.2.2, q4'.right.tail, ?_⟩⟩
          rw [← q5]
          exact (find_high (p := fun e : En => kl text e.2.1) (c := (b, k, v)) HF.out (far_mono42 q4') o).symm
        case measure => exact HM.out.2
      · have F2 := hid (hf ▸ FF.out)
        have HF := hid hf
        clear FF hf
        go_wp2_with (
          go_at_call 67
          refine F2.out.mono ?_
          rintro e w1 ⟨rfl, e1⟩
          rw [e1]
          clear e1 w1)
        go_quiet (fail)
        go_wp2
        go_roundw
        case rel =>
          obtain ⟨q1, q2, q3, q4, q5⟩ := hr.out
          have q4' : Rises (l.toL ++ (b, k, v) :: r.toL) := q4
          obtain ⟨n0, hn0⟩ := q2
          refine ⟨l, some (b, k, v), rfl, rfl, hid ⟨q1, ⟨n0 + nq, by rw [hn0, World.drewN_drewN]⟩, Tr.At.heap (w := wr) (w' := wr.drewN nq) rfl q3.2.1, q4'.left, ?_⟩⟩
          rw [← q5]
          exact (find_low (p := fun e : En => kl text e.2.1) (c := (b, k, v)) HF.out o).symm
        case measure => exact HM.out.1

set_option maxRecDepth 100000 in
set_option maxHeartbeats 2000000 in
theorem least45 (p g : Nat) (text : ByteArray) (t : Tr) (w : World) (ht : Tb w p t) (hg : Bx w g text) :
    Calls Try.prog 66 #[.pointer (some ⟨p, 0, none⟩), .func (.func 82) #[] #[.pointer (some ⟨g, 0, none⟩)]] w fun x w' => x = .returned (optP (geqE text t.toL)) ∧ ∃ n, w' = w.drewN n := by
  obtain ⟨c0, c1⟩ := cells2 ht.blk
  generalize hP : (fun (x : Ending) (w' : World) => x = .returned (optP (geqE text t.toL)) ∧ ∃ n, w' = w.drewN n) = P
  have HP := hid hP
  have HT := hid (And.intro ht hg)
  clear hP ht hg c1
  go_enter Try.func66, Try.ntmps66
  go_wp2
  go_loopw [5, 6] (fun f i wr => ∃ (s : Tr) (o : Option En), f = optP o ∧ i = s.ptr ∧ Hid (wr.heap = w.heap ∧ (∃ n, wr = w.drewN n) ∧ s.At 93 wr ∧ Rises s.toL ∧ (s.toL.find? (fun e => !kl e.2.1 text)).or o = geqE text t.toL)) (fun _ i wr => hOf wr i)
  case atStart => exact ⟨t, none, rfl, rfl, hid ⟨rfl, ⟨0, rfl⟩, HT.out.1.at_, HT.out.1.rs, by simp [geqE]⟩⟩
  case round =>
    obtain ⟨s, o, rfl, rfl, hr⟩ := hrel
    cases s with
    | nil =>
      show Code.wp _ _ _ { tmps := #[_, _, _, _, _, _, .pointer none, _, _, _, _, _, _, _, _, _, _, _, _, _, _, _, _, _, _, _, _, _, _, _, _], defers := _ } _
      go_wp2
      rw [← HP.out]
      refine ⟨?_, hr.out.2.1⟩
      have := hr.out.2.2.2.2
      simp only [Tr.toL, List.find?_nil, Option.none_or] at this
      rw [← this]
      rfl
    | node b k v l r =>
      show Code.wp _ _ _ { tmps := #[_, _, _, _, _, _, .pointer (some ⟨b, 0, none⟩), _, _, _, _, _, _, _, _, _, _, _, _, _, _, _, _, _, _, _, _, _, _, _, _], defers := _ } _
      have d0 := (cells5 hr.out.2.2.1.1).1
      have d2 := (cells5 hr.out.2.2.1.1).2.2.1
      have d3 := (cells5 hr.out.2.2.1.1).2.2.2.1
      have hh : hOf wr (.pointer (some ⟨b, 0, none⟩)) = (Tr.node b k v l r).ht := hOf_at hr.out.2.2.1
      have e1 : hOf wr l.ptr = l.ht := hOf_at hr.out.2.2.1.2.1
      have e2 : hOf wr r.ptr = r.ht := hOf_at hr.out.2.2.1.2.2
      have HM := hid (show hOf wr l.ptr < hOf wr (.pointer (some ⟨b, 0, none⟩)) ∧ hOf wr r.ptr < hOf wr (.pointer (some ⟨b, 0, none⟩)) from by
        rw [hh, e1, e2]
        simp only [Tr.ht]
        omega)
      clear hh e1 e2
      have FF := hid (far45 g k text wr (by rw [Bx, hr.out.1]; exact HT.out.2))
      cases hf : (!kl k text)
      · have F2 := hid (hf ▸ FF.out)
        have HF := hid hf
        clear FF hf
        go_wp2_with (
          go_at_call 82
          refine F2.out.mono ?_
          rintro e w1 ⟨rfl, e1⟩
          rw [e1]
          clear e1 w1)
        go_roundw
        case rel =>
          obtain ⟨q1, q2, q3, q4, q5⟩ := hr.out
          have q4' : Rises (l.toL ++ (b, k, v) :: r.toL) := q4
          refine ⟨r, o, rfl, rfl, hid ⟨q1, q2, q3.2.2, q4'.right.tail, ?_⟩⟩
          rw [← q5]
          exact (find_high (p := fun e : En => !kl e.2.1 text) (c := (b, k, v)) HF.out (far_mono45 q4') o).symm
        case measure => exact HM.out.2
      · have F2 := hid (hf ▸ FF.out)
        have HF := hid hf
        clear FF hf
        go_wp2_with (
          go_at_call 82
          refine F2.out.mono ?_
          rintro e w1 ⟨rfl, e1⟩
          rw [e1]
          clear e1 w1)
        go_quiet (fail)
        go_wp2
        go_roundw
        case rel =>
          obtain ⟨q1, q2, q3, q4, q5⟩ := hr.out
          have q4' : Rises (l.toL ++ (b, k, v) :: r.toL) := q4
          obtain ⟨n0, hn0⟩ := q2
          refine ⟨l, some (b, k, v), rfl, rfl, hid ⟨q1, ⟨n0 + nq, by rw [hn0, World.drewN_drewN]⟩, Tr.At.heap (w := wr) (w' := wr.drewN nq) rfl q3.2.1, q4'.left, ?_⟩⟩
          rw [← q5]
          exact (find_low (p := fun e : En => !kl e.2.1 text) (c := (b, k, v)) HF.out o).symm
        case measure => exact HM.out.1

end Go.Proofs.Ytkalppcekmlgbab
