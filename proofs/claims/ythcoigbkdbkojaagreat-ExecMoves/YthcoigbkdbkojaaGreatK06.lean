import Derived.Test.YthcoigbkdbkojaaGreatK05
import Derived.Test.YthcoigbkdbkojaaGreatK02
namespace Go.Proofs.YthcoigbkdbkojaaGreat.V
open Go.RowKit

theorem del_append (k : ByteArray) (a b : List En) : del k (a ++ b) = del k a ++ del k b := by simp [del]
theorem del_none {k : ByteArray} {l : List En} (h : ∀ e ∈ l, e.2.1 ≠ k) : del k l = l := by
  unfold del
  rw [List.filter_eq_self]
  intro e he
  simp [keq_false (h e he)]
theorem Rises.left {a b : List En} (h : Rises (a ++ b)) : Rises a := (List.pairwise_append.1 h).1
theorem Rises.right {a b : List En} (h : Rises (a ++ b)) : Rises b := (List.pairwise_append.1 h).2.1
theorem Rises.tail {c : En} {b : List En} (h : Rises (c :: b)) : Rises b := (List.pairwise_cons.1 h).2
theorem Rises.lo {a b : List En} {c : En} (h : Rises (a ++ c :: b)) : ∀ e ∈ a, kl e.2.1 c.2.1 = true := fun e he => (List.pairwise_append.1 h).2.2 e he c (by simp)
theorem Rises.hi {b : List En} {c : En} (h : Rises (c :: b)) : ∀ e ∈ b, kl c.2.1 e.2.1 = true := (List.pairwise_cons.1 h).1

theorem del_low {k : ByteArray} {a b : List En} {c : En} (h : Rises (a ++ c :: b)) (hk : kl k c.2.1 = true) : del k (a ++ c :: b) = del k a ++ c :: b := by
  rw [del_append, del_none (l := c :: b)]
  intro e he
  rcases List.mem_cons.1 he with rfl | he
  · exact (kl_ne hk).symm
  · exact (kl_ne (kl_trans hk (h.right.hi e he))).symm
theorem del_high {k : ByteArray} {a b : List En} {c : En} (h : Rises (a ++ c :: b)) (hk : kl c.2.1 k = true) : del k (a ++ c :: b) = a ++ c :: del k b := by
  have : a ++ c :: b = (a ++ [c]) ++ b := by simp
  rw [this, del_append, del_none (l := a ++ [c])]
  · simp
  intro e he
  rcases List.mem_append.1 he with he | he
  · exact kl_ne (kl_trans (h.lo e he) hk)
  · rw [List.mem_singleton] at he; subst he; exact kl_ne hk
theorem del_mid {a b : List En} {c : En} (h : Rises (a ++ c :: b)) : del c.2.1 (a ++ c :: b) = a ++ b := by
  rw [del_append, show c :: b = [c] ++ b from rfl, del_append, del_none (l := a) (fun e he => kl_ne (h.lo e he)), del_none (l := b) (fun e he => (kl_ne (h.right.hi e he)).symm)]
  simp [del]

theorem mem_del {k : ByteArray} {l : List En} {e : En} (h : e ∈ del k l) : e ∈ l := (List.mem_filter.1 h).1
theorem Rises.del {l : List En} (h : Rises l) (k : ByteArray) : Rises (del k l) := List.Pairwise.filter _ h
theorem blks_del_sub {l : List En} {k : ByteArray} : (blks (del k l)).Sublist (blks l) := (List.filter_sublist).map _

theorem bs_of {t : Tr} {L : List En} (e : t.toL = L) : t.bs = blks L := by unfold Tr.bs; rw [e]
theorem n_of {t : Tr} {L : List En} (e : t.toL = L) : t.n = L.length := by unfold Tr.n; rw [e]

theorem Tr.At.mem {w : World} : ∀ {t : Tr}, t.At 145 w → ∀ b k v, (b, k, v) ∈ t.toL → ∃ p q h, Nd w b k v (.pointer p) (.pointer q) (.int .i64 h)
  | .nil, _ => by simp [Tr.toL]
  | .node b k v l r, h => by
    obtain ⟨h0, h1, h2⟩ := h
    intro b' k' v' hm
    simp only [Tr.toL, List.mem_append, List.mem_cons] at hm
    rcases hm with hm | hm | hm
    · exact h1.mem b' k' v' hm
    · simp only [Prod.mk.injEq] at hm
      obtain ⟨rfl, rfl, rfl⟩ := hm
      exact ⟨_, _, _, h0⟩
    · exact h2.mem b' k' v' hm

/-- Behind the call of without: top's two sides, and levelled. -/
theorem join_end {w w1 : World} {b fb : Nat} {k fk : ByteArray} {v fv : Value} {h0 h1 : Int} {p q : Option Addr} {l r t1 : Tr} {rest : List En} (_hB : Nd w b k v l.ptr r.ptr (.int .i64 h0)) (hl : l.At 145 w) (hF : Nd w fb fk fv (.pointer p) (.pointer q) (.int .i64 h1))
    (er : r.toL = (fb, fk, fv) :: rest) (e1 : t1.toL = rest) (a1 : t1.At 145 w1) (k1 : Kept (fun i => i ∈ t1.bs) w w1) (hn : (b :: (l.bs ++ r.bs)).Nodup) (nn : l.n + r.n ≤ 700000) {pl : Option Addr} (hpl : l.addr = pl) :
    Calls Tryz.prog 114 #[.pointer (some ⟨fb, 0, none⟩)] ((w1.setCell ⟨fb, 3, none⟩ t1.ptr).setCell ⟨fb, 2, none⟩ (.pointer pl)) (TPost (l.toL ++ r.toL) w) := by
  subst hpl
  have er' := bs_of er
  have e1' := bs_of e1
  simp only [blks_cons] at er'
  have q1 : fb ∉ t1.bs ∧ fb ∉ l.bs ∧ fb ≠ b ∧ (∀ i ∈ l.bs, i ∉ t1.bs) ∧ b ∉ t1.bs ∧ (fb :: (l.bs ++ t1.bs)).Nodup := by
    rw [er'] at hn
    rw [e1']
    grind
  obtain ⟨W4, hW4⟩ : ∃ W4, W4 = (w1.setCell ⟨fb, 3, none⟩ t1.ptr).setCell ⟨fb, 2, none⟩ l.ptr := ⟨_, rfl⟩
  rw [← hW4]
  have K4 : Kept (fun i => i = fb) w1 W4 := by rw [hW4]; exact ((Kept.refl (fun i => i = fb) w1).setCell (p := ⟨fb, 3, none⟩) (fun _ => rfl) _).setCell (p := ⟨fb, 2, none⟩) (fun _ => rfl) _
  have B4 : Nd W4 fb fk fv l.ptr t1.ptr (.int .i64 h1) := by
    rw [hW4]
    exact set_block (i := 2) (w := w1.setCell ⟨fb, 3, none⟩ t1.ptr) (set_block (i := 3) (hp_kept hF k1 q1.1) _) _
  have t4 : t1.At 145 W4 := a1.kept K4 (fun i hi e => q1.1 (e ▸ hi))
  have l4 : l.At 145 W4 := (hl.kept k1 q1.2.2.2.1).kept K4 (fun i hi e => q1.2.1 (e ▸ hi))
  have n1 := n_of er
  have n2 := n_of e1
  simp only [List.length_cons] at n1
  refine (levelled_any fb fk fv h1 l t1 W4 B4 l4 t4 q1.2.2.2.2.2 (by omega)).mono ?_
  rintro x w' ⟨t', rfl, x1, x2, x3⟩
  refine ⟨t', rfl, x1, by rw [x2, er, e1], ?_⟩
  have hm : ∀ i, i ∈ t1.bs ∨ i = fb → i ∈ t'.bs := by
    intro i hi
    apply mem_bs x2
    simp only [Tr.bs] at hi
    simp only [blks_append, blks_cons, List.mem_append, List.mem_cons]
    grind
  exact ((k1.mono (fun i _ e => hm i (.inl e))).trans K4 (fun i _ e => hm i (.inr e))).trans x3 (fun i _ e => e)

theorem bs_sub {t t1 : Tr} {k : ByteArray} (e : t1.toL = del k t.toL) : t1.bs.Sublist t.bs := by
  rw [bs_of e]; exact blks_del_sub
theorem n_sub {t t1 : Tr} {k : ByteArray} (e : t1.toL = del k t.toL) : t1.n ≤ t.n := by
  rw [n_of e]; exact List.length_filter_le _ _
theorem nd_sub {b : Nat} {l r t1 : Tr} {k : ByteArray} (h : (l.bs ++ b :: r.bs).Nodup) (e : t1.toL = del k l.toL) : (b :: (t1.bs ++ r.bs)).Nodup := by
  have h1 := bs_sub e
  have h2 := h1.nodup (by grind)
  have h3 := h1.subset
  grind
theorem nd_sub' {b : Nat} {l r t1 : Tr} {k : ByteArray} (h : (l.bs ++ b :: r.bs).Nodup) (e : t1.toL = del k r.toL) : (b :: (l.bs ++ t1.bs)).Nodup := by
  have h1 := bs_sub e
  have h2 := h1.nodup (by grind)
  have h3 := h1.subset
  grind
theorem HX1 {w w1 : World} {b : Nat} {k key : ByteArray} {v p q h : Value} {l r t1 : Tr} (hB : Nd w b k v p q h) (hn : (l.bs ++ b :: r.bs).Nodup) (e : t1.toL = del key r.toL) (k1 : Kept (fun i => i ∈ t1.bs) w w1) : Nd w1 b k v p q h := by
  refine hp_kept hB k1 ?_
  have h3 := (bs_sub e).subset
  grind
theorem HX2 {w w1 : World} {b : Nat} {k key : ByteArray} {v p q h : Value} {l r t1 : Tr} (hB : Nd w b k v p q h) (hn : (l.bs ++ b :: r.bs).Nodup) (e : t1.toL = del key l.toL) (k1 : Kept (fun i => i ∈ t1.bs) w w1) : Nd w1 b k v p q h := by
  refine hp_kept hB k1 ?_
  have h3 := (bs_sub e).subset
  grind

end Go.Proofs.YthcoigbkdbkojaaGreat.V

namespace Go.Proofs.YthcoigbkdbkojaaGreat.V
open Go.RowKit

/-- A table in the heap. -/
structure Tb (cm : Value × Value) (w : World) (p : Nat) (t : Tr) : Prop where
  blk : w.heap[p]? = some (.cells #[t.ptr, .int .i64 t.n, cm.1, cm.2] 103 (0, 0))
  at_ : t.At 145 w
  rs : Rises t.toL
  nd : t.bs.Nodup

theorem Tb.kept {cm : Value × Value} {w w' : World} {p : Nat} {t : Tr} {S : Nat → Prop} (h : Tb cm w p t) (hk : Kept S w w') (h0 : ¬ S p) (h1 : ∀ i ∈ t.bs, ¬ S i) : Tb cm w' p t :=
  ⟨hp_kept h.blk hk h0, h.at_.kept hk h1, h.rs, h.nd⟩
theorem Tb.below {cm : Value × Value} {w w' : World} {p : Nat} {t : Tr} (h : Tb cm w p t) (hk : Below w.heap.size w w') : Tb cm w' p t :=
  h.kept (Kept.ofBelow hk) (fun e => e) (fun _ _ e => e)
theorem Tb.heap {cm : Value × Value} {w w' : World} {p : Nat} {t : Tr} (e : w'.heap = w.heap) (h : Tb cm w p t) : Tb cm w' p t := ⟨by rw [e]; exact h.blk, h.at_.heap e, h.rs, h.nd⟩

theorem bs_mem {t : Tr} {i : Nat} (h : i ∈ t.bs) : ∃ k v, (i, k, v) ∈ t.toL := by
  unfold Tr.bs blks at h
  obtain ⟨⟨a, k, v⟩, h1, rfl⟩ := List.mem_map.1 h
  exact ⟨k, v, h1⟩
theorem Tb.apart {cm : Value × Value} {w : World} {p : Nat} {t : Tr} (h : Tb cm w p t) : p ∉ t.bs := by
  intro hm
  obtain ⟨k, v, hm⟩ := bs_mem hm
  obtain ⟨a, b, c, e⟩ := h.at_.mem p k v hm
  have := h.blk
  rw [e] at this
  cases this

def optP : Option En → Value
  | none => .pointer none
  | some e => .pointer (some ⟨e.1, 0, none⟩)

/-- The first at or above a text; the first above it. -/
def geqE (text : ByteArray) (l : List En) : Option En := l.find? (fun e => !kl e.2.1 text)
def gtrE (text : ByteArray) (l : List En) : Option En := l.find? (fun e => kl text e.2.1)

theorem find_low {p : En → Bool} {l r : List En} {c : En} (h : p c = true) (o : Option En) : ((l ++ c :: r).find? p).or o = (l.find? p).or (some c) := by
  rw [List.find?_append, List.find?_cons, h]
  cases l.find? p <;> rfl
theorem find_high {p : En → Bool} {l r : List En} {c : En} (h : p c = false) (hl : ∀ e ∈ l, p e = true → p c = true) (o : Option En) : ((l ++ c :: r).find? p).or o = (r.find? p).or o := by
  have : l.find? p = none := by
    rw [List.find?_eq_none]
    intro e he hp
    rw [hl e he hp] at h
    cases h
  rw [List.find?_append, List.find?_cons, h, this]
  rfl

theorem gtr_eq (a b : ByteArray) : (!Op.bytesLess a.toList b.toList && !(a.toList == b.toList)) = kl b a := by
  cases h1 : kl a b
  · cases h2 : kl b a
    · have := kl_tri h1 h2
      subst this
      simp
    · have h1' : Op.bytesLess a.toList b.toList = false := h1
      rw [h1', keq_false (kl_ne h2).symm]; rfl
  · have h1' : Op.bytesLess a.toList b.toList = true := h1
    rw [h1', kl_asymm h1]; rfl

theorem cells4 {w : World} {p : Nat} {a b c d : Value} {t : TypeId} (h : w.heap[p]? = some (.cells #[a, b, c, d] t (0, 0))) : w.cell? ⟨p, 0, none⟩ = some a ∧ w.cell? ⟨p, 1, none⟩ = some b ∧ w.cell? ⟨p, 2, none⟩ = some c ∧ w.cell? ⟨p, 3, none⟩ = some d := by
  refine ⟨?_, ?_, ?_, ?_⟩ <;> (rw [cell_of_row w p _ _ _ _ h]; rfl)

/-- A captured text's box. -/
abbrev Bx (w : World) (g : Nat) (s : ByteArray) : Prop := w.heap[g]? = some (.cells #[.string s] 9 (0, 0))

set_option maxRecDepth 100000 in
set_option maxHeartbeats 800000 in
theorem far42 (g : Nat) (k text : ByteArray) (w : World) (h : Bx w g text) : Calls Tryz.prog 198 #[.string k, .pointer (some ⟨g, 0, none⟩)] w fun x w' => x = .returned (.bool (kl text k)) ∧ w' = w := by
  have c0 := cells1 h
  have H := hid (gtr_eq k text)
  clear h
  go_enter Tryz.func198, Tryz.ntmps198
  go_wp2
  go_ret
  exact ⟨by rw [← H.out]; rfl, rfl⟩

set_option maxRecDepth 100000 in
set_option maxHeartbeats 800000 in
theorem far45 (g : Nat) (k text : ByteArray) (w : World) (h : Bx w g text) : Calls Tryz.prog 150 #[.string k, .pointer (some ⟨g, 0, none⟩)] w fun x w' => x = .returned (.bool (!kl k text)) ∧ w' = w := by
  have c0 := cells1 h
  clear h
  go_enter Tryz.func150, Tryz.ntmps150
  go_wp2
  go_ret
  exact ⟨rfl, rfl⟩

set_option maxRecDepth 100000 in
set_option maxHeartbeats 800000 in
theorem least_nil (f : Value) (w : World) : Calls Tryz.prog 149 #[.pointer none, f] w fun x w' => x = .returned (.pointer none) ∧ w' = w := by
  go_enter Tryz.func149, Tryz.ntmps149
  go_wp2
  go_ret
  exact ⟨rfl, rfl⟩

theorem far_mono42 {l r : List En} {c : En} {text : ByteArray} (h : Rises (l ++ c :: r)) : ∀ e ∈ l, kl text e.2.1 = true → kl text c.2.1 = true := fun e he hp => kl_trans hp (h.lo e he)
theorem far_mono45 {l r : List En} {c : En} {text : ByteArray} (h : Rises (l ++ c :: r)) : ∀ e ∈ l, (!kl e.2.1 text) = true → (!kl c.2.1 text) = true := fun e he hp => by
  cases h2 : kl c.2.1 text
  · rfl
  · rw [kl_trans (h.lo e he) h2] at hp; cases hp

theorem hOf_heap {w w' : World} (e : w'.heap = w.heap) (v : Value) : hOf w' v = hOf w v := by
  have : ∀ a, w'.cell? a = w.cell? a := fun a => World.cell?_of_block (by rw [e])
  unfold hOf
  cases v <;> try rfl
  rename_i o
  cases o <;> try rfl
  simp only [this]

set_option maxRecDepth 100000 in
set_option maxHeartbeats 2000000 in
theorem least42 {cm : Value × Value} (p g : Nat) (text : ByteArray) (t : Tr) (w : World) (ht : Tb cm w p t) (hg : Bx w g text) :
    Calls Tryz.prog 149 #[.pointer (some ⟨p, 0, none⟩), .func (.func 198) #[] #[.pointer (some ⟨g, 0, none⟩)]] w fun x w' => x = .returned (optP (gtrE text t.toL)) ∧ ∃ n, w' = w.drewN n := by
  obtain ⟨c0, c1, -, -⟩ := cells4 ht.blk
  generalize hP : (fun (x : Ending) (w' : World) => x = .returned (optP (gtrE text t.toL)) ∧ ∃ n, w' = w.drewN n) = P
  have HP := hid hP
  have HT := hid (And.intro ht hg)
  clear hP ht hg c1
  go_enter Tryz.func149, Tryz.ntmps149
  go_wp2
  go_loopw [5, 6] (fun f i wr => ∃ (s : Tr) (o : Option En), f = optP o ∧ i = s.ptr ∧ Hid (wr.heap = w.heap ∧ (∃ n, wr = w.drewN n) ∧ s.At 145 wr ∧ Rises s.toL ∧ (s.toL.find? (fun e => kl text e.2.1)).or o = gtrE text t.toL)) (fun _ i wr => hOf wr i)
  case atStart => exact ⟨t, none, rfl, rfl, hid ⟨rfl, ⟨0, rfl⟩, HT.out.1.at_, HT.out.1.rs, by simp [gtrE]⟩⟩
  case round =>
    obtain ⟨s, o, rfl, rfl, hr⟩ := hrel
    cases s with
    | nil =>
      show Code.wp _ _ _ { tmps := #[_, _, _, _, _, _, .pointer none, _, _, _, _, _, _, _, _, _, _, _, _, _, _, _, _, _, _, _, _, _, _, _, _], defers := _ } _
      go_wp2
      rw [← HP.out]
      refine ⟨?_, hr.out.2.1⟩
      have := hr.out.2.2.2.2
      simp only [Tr.toL, List.find?_nil, Option.none_or] at this
      rw [← this]
      rfl
    | node b k v l r =>
      show Code.wp _ _ _ { tmps := #[_, _, _, _, _, _, .pointer (some ⟨b, 0, none⟩), _, _, _, _, _, _, _, _, _, _, _, _, _, _, _, _, _, _, _, _, _, _, _, _], defers := _ } _
      have d0 := (cells5 hr.out.2.2.1.1).1
      have d2 := (cells5 hr.out.2.2.1.1).2.2.1
      have d3 := (cells5 hr.out.2.2.1.1).2.2.2.1
      have hh : hOf wr (.pointer (some ⟨b, 0, none⟩)) = (Tr.node b k v l r).ht := hOf_at hr.out.2.2.1
      have e1 : hOf wr l.ptr = l.ht := hOf_at hr.out.2.2.1.2.1
      have e2 : hOf wr r.ptr = r.ht := hOf_at hr.out.2.2.1.2.2
      have HM := hid (show hOf wr l.ptr < hOf wr (.pointer (some ⟨b, 0, none⟩)) ∧ hOf wr r.ptr < hOf wr (.pointer (some ⟨b, 0, none⟩)) from by
        rw [hh, e1, e2]
        simp only [Tr.ht]
        omega)
      clear hh e1 e2
      have FF := hid (far42 g k text wr (by rw [Bx, hr.out.1]; exact HT.out.2))
      cases hf : (kl text k)
      · have F2 := hid (hf ▸ FF.out)
        have HF := hid hf
        clear FF hf
        go_wp2_with (
          go_at_call 198
          refine F2.out.mono ?_
          rintro e w1 ⟨rfl, e1⟩
          rw [e1]
          clear e1 w1)
        go_roundw
        case rel =>
          obtain ⟨q1, q2, q3, q4, q5⟩ := hr.out
          have q4' : Rises (l.toL ++ (b, k, v) :: r.toL) := q4
          refine ⟨r, o, rfl, rfl, hid ⟨q1, q2, q3.2.2, q4'.right.tail, ?_⟩⟩
          rw [← q5]
          exact (find_high (p := fun e : En => kl text e.2.1) (c := (b, k, v)) HF.out (far_mono42 q4') o).symm
        case measure => exact HM.out.2
      · have F2 := hid (hf ▸ FF.out)
        have HF := hid hf
        clear FF hf
        go_wp2_with (
          go_at_call 198
          refine F2.out.mono ?_
          rintro e w1 ⟨rfl, e1⟩
          rw [e1]
          clear e1 w1)
        go_quiet (fail)
        go_wp2
        go_roundw
        case rel =>
          obtain ⟨q1, q2, q3, q4, q5⟩ := hr.out
          have q4' : Rises (l.toL ++ (b, k, v) :: r.toL) := q4
          obtain ⟨n0, hn0⟩ := q2
          refine ⟨l, some (b, k, v), rfl, rfl, hid ⟨q1, ⟨n0 + nq, by rw [hn0, World.drewN_drewN]⟩, Tr.At.heap (w := wr) (w' := wr.drewN nq) rfl q3.2.1, q4'.left, ?_⟩⟩
          rw [← q5]
          exact (find_low (p := fun e : En => kl text e.2.1) (c := (b, k, v)) HF.out o).symm
        case measure => exact HM.out.1

set_option maxRecDepth 100000 in
set_option maxHeartbeats 2000000 in
theorem least45 {cm : Value × Value} (p g : Nat) (text : ByteArray) (t : Tr) (w : World) (ht : Tb cm w p t) (hg : Bx w g text) :
    Calls Tryz.prog 149 #[.pointer (some ⟨p, 0, none⟩), .func (.func 150) #[] #[.pointer (some ⟨g, 0, none⟩)]] w fun x w' => x = .returned (optP (geqE text t.toL)) ∧ ∃ n, w' = w.drewN n := by
  obtain ⟨c0, c1, -, -⟩ := cells4 ht.blk
  generalize hP : (fun (x : Ending) (w' : World) => x = .returned (optP (geqE text t.toL)) ∧ ∃ n, w' = w.drewN n) = P
  have HP := hid hP
  have HT := hid (And.intro ht hg)
  clear hP ht hg c1
  go_enter Tryz.func149, Tryz.ntmps149
  go_wp2
  go_loopw [5, 6] (fun f i wr => ∃ (s : Tr) (o : Option En), f = optP o ∧ i = s.ptr ∧ Hid (wr.heap = w.heap ∧ (∃ n, wr = w.drewN n) ∧ s.At 145 wr ∧ Rises s.toL ∧ (s.toL.find? (fun e => !kl e.2.1 text)).or o = geqE text t.toL)) (fun _ i wr => hOf wr i)
  case atStart => exact ⟨t, none, rfl, rfl, hid ⟨rfl, ⟨0, rfl⟩, HT.out.1.at_, HT.out.1.rs, by simp [geqE]⟩⟩
  case round =>
    obtain ⟨s, o, rfl, rfl, hr⟩ := hrel
    cases s with
    | nil =>
      show Code.wp _ _ _ { tmps := #[_, _, _, _, _, _, .pointer none, _, _, _, _, _, _, _, _, _, _, _, _, _, _, _, _, _, _, _, _, _, _, _, _], defers := _ } _
      go_wp2
      rw [← HP.out]
      refine ⟨?_, hr.out.2.1⟩
      have := hr.out.2.2.2.2
      simp only [Tr.toL, List.find?_nil, Option.none_or] at this
      rw [← this]
      rfl
    | node b k v l r =>
      show Code.wp _ _ _ { tmps := #[_, _, _, _, _, _, .pointer (some ⟨b, 0, none⟩), _, _, _, _, _, _, _, _, _, _, _, _, _, _, _, _, _, _, _, _, _, _, _, _], defers := _ } _
      have d0 := (cells5 hr.out.2.2.1.1).1
      have d2 := (cells5 hr.out.2.2.1.1).2.2.1
      have d3 := (cells5 hr.out.2.2.1.1).2.2.2.1
      have hh : hOf wr (.pointer (some ⟨b, 0, none⟩)) = (Tr.node b k v l r).ht := hOf_at hr.out.2.2.1
      have e1 : hOf wr l.ptr = l.ht := hOf_at hr.out.2.2.1.2.1
      have e2 : hOf wr r.ptr = r.ht := hOf_at hr.out.2.2.1.2.2
      have HM := hid (show hOf wr l.ptr < hOf wr (.pointer (some ⟨b, 0, none⟩)) ∧ hOf wr r.ptr < hOf wr (.pointer (some ⟨b, 0, none⟩)) from by
        rw [hh, e1, e2]
        simp only [Tr.ht]
        omega)
      clear hh e1 e2
      have FF := hid (far45 g k text wr (by rw [Bx, hr.out.1]; exact HT.out.2))
      cases hf : (!kl k text)
      · have F2 := hid (hf ▸ FF.out)
        have HF := hid hf
        clear FF hf
        go_wp2_with (
          go_at_call 150
          refine F2.out.mono ?_
          rintro e w1 ⟨rfl, e1⟩
          rw [e1]
          clear e1 w1)
        go_roundw
        case rel =>
          obtain ⟨q1, q2, q3, q4, q5⟩ := hr.out
          have q4' : Rises (l.toL ++ (b, k, v) :: r.toL) := q4
          refine ⟨r, o, rfl, rfl, hid ⟨q1, q2, q3.2.2, q4'.right.tail, ?_⟩⟩
          rw [← q5]
          exact (find_high (p := fun e : En => !kl e.2.1 text) (c := (b, k, v)) HF.out (far_mono45 q4') o).symm
        case measure => exact HM.out.2
      · have F2 := hid (hf ▸ FF.out)
        have HF := hid hf
        clear FF hf
        go_wp2_with (
          go_at_call 150
          refine F2.out.mono ?_
          rintro e w1 ⟨rfl, e1⟩
          rw [e1]
          clear e1 w1)
        go_quiet (fail)
        go_wp2
        go_roundw
        case rel =>
          obtain ⟨q1, q2, q3, q4, q5⟩ := hr.out
          have q4' : Rises (l.toL ++ (b, k, v) :: r.toL) := q4
          obtain ⟨n0, hn0⟩ := q2
          refine ⟨l, some (b, k, v), rfl, rfl, hid ⟨q1, ⟨n0 + nq, by rw [hn0, World.drewN_drewN]⟩, Tr.At.heap (w := wr) (w' := wr.drewN nq) rfl q3.2.1, q4'.left, ?_⟩⟩
          rw [← q5]
          exact (find_low (p := fun e : En => !kl e.2.1 text) (c := (b, k, v)) HF.out o).symm
        case measure => exact HM.out.1

end Go.Proofs.YthcoigbkdbkojaaGreat.V

namespace Go.Proofs.YthcoigbkdbkojaaGreat.V
open Go.RowKit

theorem below_new (w : World) (o : Obj) : Below w.heap.size w (w.alloc o) := (Below.refl _ _).alloc (Nat.le_refl _) _
theorem blw_drewN {B n : Nat} {w w' : World} (h : Below B w w') : Below B w (w'.drewN n) := ⟨h.os, h.tape, h.output, h.size, h.block⟩
theorem below_on {w0 w w1 : World} (h0 : Below w0.heap.size w0 w) (h : Below w.heap.size w w1) : Below w0.heap.size w0 w1 := h0.trans (h.mono h0.size)

theorem sliteClone_any (s : ByteArray) (w : World) (hlim : s.size ≤ 281474976710656) :
    Calls Tryz.prog 115 #[.string s] w fun e w' => e = .returned (.string s) ∧ Below w.heap.size w w' := Any.stringslite_Clone Tryz.laysM316 s w hlim

set_option maxRecDepth 100000 in
set_option maxHeartbeats 800000 in
theorem clone_any (s : ByteArray) (w : World) (hlim : s.size ≤ 281474976710656) :
    Calls Tryz.prog 70 #[.string s] w fun e w' => e = .returned (.string s) ∧ Below w.heap.size w w' := by
  have H := hid (sliteClone_any s w hlim)
  clear hlim
  go_enter Tryz.func70, Tryz.ntmps70
  go_wp2_with (go_at_call 115; refine H.out.mono ?_; rintro e w' ⟨rfl, hb⟩; have HB := hid hb; clear hb)
  go_ret
  exact ⟨rfl, HB.out⟩

/-- A table, or none. -/
def TO (w : World) (o : Option Addr) (t : Tr) : Prop := (o = none ∧ t = .nil) ∨ ∃ p cm, o = some ⟨p, 0, none⟩ ∧ Tb cm w p t

theorem TO.below {w w' : World} {o : Option Addr} {t : Tr} (h : TO w o t) (hk : Below w.heap.size w w') : TO w' o t := by
  rcases h with ⟨h1, h2⟩ | ⟨p, cm, h1, h2⟩
  · exact .inl ⟨h1, h2⟩
  · exact .inr ⟨p, cm, h1, h2.below hk⟩
theorem TO.heap {w w' : World} {o : Option Addr} {t : Tr} (e : w'.heap = w.heap) (h : TO w o t) : TO w' o t := by
  rcases h with ⟨h1, h2⟩ | ⟨p, cm, h1, h2⟩
  · exact .inl ⟨h1, h2⟩
  · exact .inr ⟨p, cm, h1, h2.heap e⟩
theorem TO.rs {w : World} {o : Option Addr} {t : Tr} (h : TO w o t) : Rises t.toL := by
  rcases h with ⟨_, rfl⟩ | ⟨p, _, _, h2⟩
  · exact List.Pairwise.nil
  · exact h2.rs
theorem TO.at_ {w : World} {o : Option Addr} {t : Tr} (h : TO w o t) : t.At 145 w := by
  rcases h with ⟨_, rfl⟩ | ⟨p, _, _, h2⟩
  · trivial
  · exact h2.at_

set_option maxRecDepth 100000 in
set_option maxHeartbeats 800000 in
theorem geq_any (o : Option Addr) (text : ByteArray) (t : Tr) (w : World) (ht : TO w o t) :
    Calls Tryz.prog 113 #[.pointer o, .string text] w fun x w' => x = .returned (optP (geqE text t.toL)) ∧ Below w.heap.size w w' := by
  obtain ⟨W, hW⟩ : ∃ W, W = w.alloc (.cells #[.string text] 9) := ⟨_, rfl⟩
  have L1 := hid (show Calls Tryz.prog 149 #[.pointer o, .func (.func 150) #[] #[.pointer (some ⟨w.heap.size, 0, none⟩)]] W (fun x w' => x = .returned (optP (geqE text t.toL)) ∧ Below w.heap.size w w') from by
    rw [hW]
    have hb := below_new w (.cells #[.string text] 9)
    rcases ht with ⟨rfl, rfl⟩ | ⟨p, cm, rfl, ht⟩
    · refine (least_nil _ _).mono ?_
      rintro x w' ⟨rfl, rfl⟩
      exact ⟨rfl, hb⟩
    · refine (least45 p w.heap.size text t _ (ht.below hb) (hp_new w _)).mono ?_
      rintro x w' ⟨rfl, n, rfl⟩
      exact ⟨rfl, blw_drewN hb⟩)
  have HW := hid hW
  have hmf : ∀ (fn : Fn) (first cap : Array Value) (w : World), (Instr.makeFunc fn first cap).run Tryz.prog w = .ok (.func fn first cap) w := fun _ _ _ _ => rfl
  clear ht hW
  go_enter Tryz.func113, Tryz.ntmps113
  go_wp2_with (
    go_at_call 149
    rw [← HW.out]
    refine L1.out.mono ?_
    rintro e w1 ⟨rfl, hb⟩
    have HB := hid hb
    clear hb)
  go_ret
  exact ⟨rfl, HB.out⟩

set_option maxRecDepth 100000 in
set_option maxHeartbeats 800000 in
theorem gtr_any (o : Option Addr) (text : ByteArray) (t : Tr) (w : World) (ht : TO w o t) :
    Calls Tryz.prog 177 #[.pointer o, .string text] w fun x w' => x = .returned (optP (gtrE text t.toL)) ∧ Below w.heap.size w w' := by
  obtain ⟨W, hW⟩ : ∃ W, W = w.alloc (.cells #[.string text] 9) := ⟨_, rfl⟩
  have L1 := hid (show Calls Tryz.prog 149 #[.pointer o, .func (.func 198) #[] #[.pointer (some ⟨w.heap.size, 0, none⟩)]] W (fun x w' => x = .returned (optP (gtrE text t.toL)) ∧ Below w.heap.size w w') from by
    rw [hW]
    have hb := below_new w (.cells #[.string text] 9)
    rcases ht with ⟨rfl, rfl⟩ | ⟨p, cm, rfl, ht⟩
    · refine (least_nil _ _).mono ?_
      rintro x w' ⟨rfl, rfl⟩
      exact ⟨rfl, hb⟩
    · refine (least42 p w.heap.size text t _ (ht.below hb) (hp_new w _)).mono ?_
      rintro x w' ⟨rfl, n, rfl⟩
      exact ⟨rfl, blw_drewN hb⟩)
  have HW := hid hW
  have hmf : ∀ (fn : Fn) (first cap : Array Value) (w : World), (Instr.makeFunc fn first cap).run Tryz.prog w = .ok (.func fn first cap) w := fun _ _ _ _ => rfl
  clear ht hW
  go_enter Tryz.func177, Tryz.ntmps177
  go_wp2_with (
    go_at_call 149
    rw [← HW.out]
    refine L1.out.mono ?_
    rintro e w1 ⟨rfl, hb⟩
    have HB := hid hb
    clear hb)
  go_ret
  exact ⟨rfl, HB.out⟩


theorem geq_mem {key : ByteArray} {l : List En} {e : En} (h : geqE key l = some e) : e ∈ l := List.mem_of_find?_eq_some h
theorem gtr_mem {key : ByteArray} {l : List En} {e : En} (h : gtrE key l = some e) : e ∈ l := List.mem_of_find?_eq_some h

/-- What at answers, of a list that rises: the entry of the key. -/
theorem ent_eq (key : ByteArray) : ∀ {l : List En}, Rises l → ent key l = (match geqE key l with | some e => if e.2.1 = key then some e else none | none => none)
  | [], _ => rfl
  | c :: l, h => by
    have ih := ent_eq key h.tail
    unfold ent geqE at *
    rw [List.find?_cons, List.find?_cons]
    cases h1 : kl c.2.1 key
    · have hn : ∀ e ∈ l, (e.2.1.toList == key.toList) = false := fun e he => by
        have := kl_le' h1 (h.hi e he)
        exact keq_false (fun e2 => by rw [e2, kl_irrefl] at this; cases this)
      by_cases h2 : c.2.1 = key
      · simp [h2]
      · have hf : l.find? (fun e => e.2.1.toList == key.toList) = none := by
          rw [List.find?_eq_none]; intro e he; rw [hn e he]; simp
        simp [keq_false h2, hf, h2]
    · have h2 := kl_ne h1
      simp [keq_false h2, ih]

theorem ent_some {key : ByteArray} {l : List En} {e : En} (h : ent key l = some e) : e ∈ l ∧ e.2.1 = key := by
  have h1 := List.mem_of_find?_eq_some h
  have h2 := List.find?_some h
  exact ⟨h1, keq_iff.1 h2⟩
theorem ent_none {key : ByteArray} {l : List En} (h : ent key l = none) : ∀ e ∈ l, e.2.1 ≠ key := by
  intro e he e2
  have := List.find?_eq_none.1 h e he
  rw [e2] at this
  simp at this

set_option maxRecDepth 100000 in
set_option maxHeartbeats 2000000 in
theorem at_any (o : Option Addr) (key : ByteArray) (t : Tr) (w : World) (ht : TO w o t) :
    Calls Tryz.prog 68 #[.pointer o, .string key] w fun x w' => x = .returned (optP (ent key t.toL)) ∧ Below w.heap.size w w' := by
  have G := hid (geq_any o key t w ht)
  have HE := hid (ent_eq key ht.rs)
  have HM := hid (fun (e : En) (he : e ∈ t.toL) => ht.at_.mem e.1 e.2.1 e.2.2 he)
  clear ht
  cases hq : geqE key t.toL with
  | none =>
    have G2 := hid (hq ▸ G.out)
    have HE2 := hid (show ent key t.toL = none by rw [HE.out, hq])
    clear G hq HE
    go_enter Tryz.func68, Tryz.ntmps68
    go_wp2_with (
      go_at_call 113
      refine G2.out.mono ?_
      rintro e w1 ⟨e1, hb⟩
      have e2 : e = .returned (.pointer none) := e1
      subst e2
      have HB := hid hb
      clear hb e1)
    go_ret
    exact ⟨by rw [HE2.out]; rfl, HB.out⟩
  | some c =>
    obtain ⟨b, k, v⟩ := c
    have G2 := hid (hq ▸ G.out)
    obtain ⟨p', q', h', nd⟩ := HM.out (b, k, v) (geq_mem hq)
    have d0 := (cells5 nd).1
    by_cases hk : k = key
    · subst hk
      have HE2 := hid (show ent k t.toL = some (b, k, v) by rw [HE.out, hq]; simp)
      have hbl := World.block_lt_of_cell? _ _ d0
      clear G hq HE HM nd
      go_enter Tryz.func68, Tryz.ntmps68
      go_wp2_with (
        go_at_call 113
        refine G2.out.mono ?_
        rintro e w1 ⟨e1, hb⟩
        have e2 : e = .returned (.pointer (some ⟨b, 0, none⟩)) := e1
        subst e2
        have f0 := (hb.cell hbl).trans d0
        have HB := hid hb
        clear hb e1)
      go_ret
      exact ⟨by rw [HE2.out]; rfl, HB.out⟩
    · have HE2 := hid (show ent key t.toL = none by rw [HE.out, hq]; simp [hk])
      have hbl := World.block_lt_of_cell? _ _ d0
      have hke := keq_false hk
      clear G hq HE HM nd hk
      go_enter Tryz.func68, Tryz.ntmps68
      go_wp2_with (
        go_at_call 113
        refine G2.out.mono ?_
        rintro e w1 ⟨e1, hb⟩
        have e2 : e = .returned (.pointer (some ⟨b, 0, none⟩)) := e1
        subst e2
        have f0 := (hb.cell hbl).trans d0
        have HB := hid hb
        clear hb e1)
      go_ret
      exact ⟨by rw [HE2.out]; rfl, HB.out⟩

end Go.Proofs.YthcoigbkdbkojaaGreat.V

namespace Go.Proofs.YthcoigbkdbkojaaGreat.V
open Go.RowKit

/-- A zero value of the table's type. -/
abbrev zv : Value := .pointer none
def getV (key : ByteArray) (l : List En) : Value := match ent key l with | some e => .tuple #[e.2.2, .bool true] | none => .tuple #[zv, .bool false]

set_option maxRecDepth 100000 in
set_option maxHeartbeats 2000000 in
theorem get_any (o : Option Addr) (key : ByteArray) (t : Tr) (w : World) (ht : TO w o t) :
    Calls Tryz.prog 67 #[.pointer o, .string key] w fun x w' => x = .returned (getV key t.toL) ∧ Below w.heap.size w w' := by
  have G := hid (at_any o key t w ht)
  have HM := hid (fun (e : En) (he : e ∈ t.toL) => ht.at_.mem e.1 e.2.1 e.2.2 he)
  clear ht
  cases hq : ent key t.toL with
  | none =>
    have G2 := hid (hq ▸ G.out)
    have HE2 := hid hq
    clear G hq
    go_enter Tryz.func67, Tryz.ntmps67
    go_wp2_with (
      go_at_call 68
      refine G2.out.mono ?_
      rintro e w1 ⟨e1, hb⟩
      have e2 : e = .returned (.pointer none) := e1
      subst e2
      have HB := hid hb
      clear hb e1)
    go_ret2
    exact ⟨by rw [getV, HE2.out]; rfl, below_on HB.out (below_new _ _)⟩
  | some c =>
    obtain ⟨b, k, v⟩ := c
    have G2 := hid (hq ▸ G.out)
    obtain ⟨p', q', h', nd⟩ := HM.out (b, k, v) (ent_some hq).1
    have d0 := (cells5 nd).2.1
    have HE2 := hid hq
    have hbl := World.block_lt_of_cell? _ _ d0
    clear G hq HM nd
    go_enter Tryz.func67, Tryz.ntmps67
    go_wp2_with (
      go_at_call 68
      refine G2.out.mono ?_
      rintro e w1 ⟨e1, hb⟩
      have e2 : e = .returned (.pointer (some ⟨b, 0, none⟩)) := e1
      subst e2
      have f0 := (hb.cell hbl).trans d0
      have HB := hid hb
      clear hb e1)
    go_ret2
    exact ⟨by rw [getV, HE2.out]; rfl, HB.out⟩

def nextV (above : ByteArray) (l : List En) : Value := match gtrE above l with | some e => .tuple #[.string e.2.1, .bool true] | none => .tuple #[.string ⟨#[]⟩, .bool false]

/-- Keys are no longer than a text can be. -/
def Short (t : Tr) : Prop := ∀ e ∈ t.toL, e.2.1.size ≤ 281474976710656

end Go.Proofs.YthcoigbkdbkojaaGreat.V
