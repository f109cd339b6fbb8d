import Derived.Test.YthjggbcppgbdoaaK17
namespace Go.Proofs.Ythjggbcppgbdoaa
open Go.RowKit

theorem e45 : ∀ args w, (callFunc 45 args).run Try.prog w = .ok (.enter 45 args) w := enters_of Try.func45 (by kernel_rfl) rfl

theorem rl_lt {w : World} {v : Value} {l : List Pl} (h : RL w v l) : ∀ j, v.ownBlock = some j → j < w.heap.size := by
  intro j hj
  rcases Nat.eq_zero_or_pos l.length with h0 | h0
  · rw [h.2 (List.eq_nil_of_length_eq_zero h0)] at hj
    simp [Value.ownBlock] at hj
  · obtain ⟨b, off, cap, rfl, -, -, hc⟩ := h.1.lits h0 (by omega)
    simp [Value.ownBlock] at hj
    subst hj
    cases l with
    | nil => simp at h0
    | cons e l => exact World.block_lt_of_cell? _ _ (hc 0 (.string e.1) rfl)

theorem rab_some {a : ByteArray} {l : List Pl} {e : Pl} (h : l.find? (abP a) = some e) : rabV a true l = (e.1, e.2.copy (!e.2.w), true) ∧ e ∈ l ∧ kl a e.1 = true := by
  refine ⟨by unfold rabV; rw [h]; rfl, List.mem_of_find?_eq_some h, ?_⟩
  have := List.find?_some h
  unfold abP at this
  simp only [Bool.and_eq_true] at this
  exact this.1
theorem rab_none {a : ByteArray} {l : List Pl} (h : l.find? (abP a) = none) : rabV a true l = (⟨#[]⟩, 0, false) := by unfold rabV; rw [h]; rfl

/-- The snapshot of both, key by key. -/
theorem held_loop {w : World} {p : Nat} {F : Nat → Prop} {v : Value} {m : Bool} {l : List Pl} {g1 g2 gp b1 b2 b3 b4 b5 : Nat} {a0 : ByteArray} (hz : ZV w p l m F) (hr : RL w v l) (hl : l.length ≤ 500000) (hks : ∀ e ∈ l, e.1.size ≤ 281474976710000) (ha : a0.size ≤ 281474976710000)
    (hs : SnB w g1 g2 gp (some ⟨p, 0, none⟩) (bhd a0)) (h : HB w b1 b2 b3 b4 b5 (rabV a0 m l).2.2 (rabV a0 m l).1 (rabV a0 m l).2.1 v m) (hF : ∀ j, (j = b1 ∨ j = b2 ∨ j = b3 ∨ j = b4) → ¬ F j) (hro : ∀ j, v.ownBlock = some j → j ≠ b1 ∧ j ≠ b2 ∧ j ≠ b3 ∧ j ≠ b4) :
    Calls Try.prog 75 #[.func (.func 45) #[] #[.pointer (some ⟨b1, 0, none⟩), .pointer (some ⟨b2, 0, none⟩), .pointer (some ⟨b3, 0, none⟩), .pointer (some ⟨b4, 0, none⟩), .pointer (some ⟨b5, 0, none⟩)], .pointer (some ⟨g1, 0, none⟩), .pointer (some ⟨g2, 0, none⟩)] w fun y w' => y = .returned (.tuple #[]) ∧ (∃ k x, HB w' b1 b2 b3 b4 b5 false k x v m) ∧ Kept (fun j => j = b1 ∨ j = b2 ∨ j = b3 ∨ j = b4) w w' := by
  have sg : ¬ (g2 = b1 ∨ g2 = b2 ∨ g2 = b3 ∨ g2 = b4) := by
    have := hs.s
    rintro (e | e | e | e) <;> subst e
    · rw [h.ok] at this; cases this
    · rw [h.is] at this; cases this
    · rw [h.k] at this; cases this
    · rw [h.x] at this; cases this
  have sp : ¬ (gp = b1 ∨ gp = b2 ∨ gp = b3 ∨ gp = b4) := by
    have := hs.p
    rintro (e | e | e | e) <;> subst e
    · rw [h.ok] at this; cases this
    · rw [h.is] at this; cases this
    · rw [h.k] at this; cases this
    · rw [h.x] at this; cases this
  have B : BodyS 57 #[.pointer (some ⟨gp, 0, none⟩)] 45 #[.pointer (some ⟨b1, 0, none⟩), .pointer (some ⟨b2, 0, none⟩), .pointer (some ⟨b3, 0, none⟩), .pointer (some ⟨b4, 0, none⟩), .pointer (some ⟨b5, 0, none⟩)] g2
      (fun mm frm W => ∃ a, frm = bhd a ∧ a.size ≤ 281474976710000 ∧ mm = l.countP (fun e => kl a e.1) ∧ HB W b1 b2 b3 b4 b5 (rabV a m l).2.2 (rabV a m l).1 (rabV a m l).2.1 v m ∧ Kept (fun j => j = b1 ∨ j = b2 ∨ j = b3 ∨ j = b4) w W)
      (fun mm k x W => ∃ a, mm = l.countP (fun e => kl a e.1) ∧ HB W b1 b2 b3 b4 b5 true k x v m ∧ Kept (fun j => j = b1 ∨ j = b2 ∨ j = b3 ∨ j = b4) w W ∧ ∃ e ∈ l, e.1 = k ∧ kl a k = true)
      (fun W => (∃ k x, HB W b1 b2 b3 b4 b5 false k x v m) ∧ Kept (fun j => j = b1 ∨ j = b2 ∨ j = b3 ∨ j = b4) w W) := by
    refine ⟨?_, ?_, ?_, ?_⟩
    · rintro mm frm W ⟨a, -, -, -, -, hk⟩
      exact hp_kept hs.s hk sg
    · rintro mm frm W ⟨a, rfl, has, rfl, hb, hk⟩
      have hzW := hz.kept hk (fun j hj e => hF j e hj)
      have hpW := hp_kept hs.p hk sp
      cases m
      · refine (find57_no (some ⟨p, 0, none⟩) (bhd a) gp W hpW (vmarked p l false F W hzW)).mono ?_
        rintro y w' ⟨rfl, hbl⟩
        exact .inl ⟨_, _, rfl, ⟨_, _, hb.below hbl⟩, hk.trans (Kept.ofBelow hbl) (fun _ _ e => e.elim)⟩
      · have L := vleast58 p (bhd a) ⟨#[]⟩ l true F W hzW (by rw [bhd_size]; omega) (by decide)
        rw [least_held] at L
        cases hf : l.find? (abP a) with
        | none =>
          rw [rab_none hf] at L hb
          refine (find57 (some ⟨p, 0, none⟩) (bhd a) gp _ _ _ W hpW (vmarked p l true F W hzW) L).mono ?_
          rintro y w' ⟨rfl, hbl⟩
          exact .inl ⟨_, _, rfl, ⟨_, _, hb.below hbl⟩, hk.trans (Kept.ofBelow hbl) (fun _ _ e => e.elim)⟩
        | some e =>
          obtain ⟨r1, r2, r3⟩ := rab_some hf
          rw [r1] at L hb
          refine (find57 (some ⟨p, 0, none⟩) (bhd a) gp _ _ _ W hpW (vmarked p l true F W hzW) L).mono ?_
          rintro y w' ⟨rfl, hbl⟩
          exact .inr ⟨_, _, rfl, a, rfl, hb.below hbl, hk.trans (Kept.ofBelow hbl) (fun _ _ e => e.elim), e, r2, rfl, r3⟩
    · rintro mm k x W ⟨a, -, -, -, e, he, rfl, -⟩
      exact hks e he
    · rintro mm k x W ⟨a, rfl, hb, hk, e, he, rfl, hlt⟩
      have hrW : RL W v l := ⟨hr.1.kept hk (fun j hj q => by
        obtain ⟨o1, o2, o3, o4⟩ := hro j hj
        rcases q with q | q | q | q <;> contradiction), hr.2⟩
      refine (held45 b1 b2 b3 b4 b5 e.1 x v m l W hb hrW hl hro).mono ?_
      rintro y w' ⟨rfl, hb', hk'⟩
      refine .inr ⟨rfl, l.countP (fun e' => kl e.1 e'.1), ?_, e.1, rfl, hks e he, rfl, hb', hk.trans hk' (fun _ _ q => q)⟩
      exact count_less (x := e) (fun y _ hy => kl_trans hlt hy) he hlt (kl_irrefl _)
  exact iterS B e57 e45 _ (bhd a0) w ⟨a0, rfl, ha, rfl, h, Kept.refl _ _⟩ hs.f

end Go.Proofs.Ythjggbcppgbdoaa

namespace Go.Proofs.Ythjggbcppgbdoaa
open Go.RowKit

set_option maxRecDepth 100000 in
set_option maxHeartbeats 4000000 in
theorem held_law (p : Nat) (v : Value) (m : Bool) (l : List Pl) (above : ByteArray) (F : Nat → Prop) (w : World) (hz : ZV w p l m F) (h : RL w v l) (hl : l.length ≤ 500000) (hks : ∀ e ∈ l, e.1.size ≤ 281474976710000) (ha : above.size ≤ 281474976710000) (hF : ∀ j, F j → j < w.heap.size) :
    Calls Try.prog 14 #[.pointer (some ⟨p, 0, none⟩), .agg #[v, .bool m], .string above] w fun x w' => x = .returned (.bool true) ∧ Below w.heap.size w w' := by
  have hmf : ∀ (fn : Fn) (first cap : Array Value) (w : World), (Instr.makeFunc fn first cap).run Try.prog w = .ok (.func fn first cap) w := fun _ _ _ _ => rfl
  have hlt := rl_lt h
  obtain ⟨ao, cap, ev, -, -⟩ := h.1.shape
  subst ev
  generalize hW0 : w.alloc (.cells #[.slice ao l.length cap, .bool m] 34) = W0
  have X0 := hid (show W0.heap[w.heap.size]? = some (.cells #[.slice ao l.length cap, .bool m] 34 (0, 0)) from hW0 ▸ hp_new _ _)
  have B0 := hid (show Below w.heap.size w W0 from hW0 ▸ below_new _ _)
  have D1 := hid (dabove _ m l above W0 (h.below B0.out) (by omega))
  have HW := hid hW0
  have SN := hid (fun W => ssnap_any (some ⟨p, 0, none⟩) above W ha)
  have LP := hid (show ∀ w1 w2 g1 g2 gp, Below W0.heap.size W0 w1 → Below ((((w1.alloc (.cells #[.string (rabV above m l).1] 9)).alloc (.cells #[.int .i64 (rabV above m l).2.1] 3)).alloc (.cells #[.bool (rabV above m l).2.2] 4)).alloc (.cells #[.bool true] 4)).heap.size ((((w1.alloc (.cells #[.string (rabV above m l).1] 9)).alloc (.cells #[.int .i64 (rabV above m l).2.1] 3)).alloc (.cells #[.bool (rabV above m l).2.2] 4)).alloc (.cells #[.bool true] 4)) w2 → SnB w2 g1 g2 gp (some ⟨p, 0, none⟩) (bhd above) →
      Calls Try.prog 75 #[.func (.func 45) #[] #[.pointer (some ⟨w1.heap.size + 1 + 1 + 1, 0, none⟩), .pointer (some ⟨w1.heap.size + 1 + 1, 0, none⟩), .pointer (some ⟨w1.heap.size, 0, none⟩), .pointer (some ⟨w1.heap.size + 1, 0, none⟩), .pointer (some ⟨w.heap.size, 0, none⟩)], .pointer (some ⟨g1, 0, none⟩), .pointer (some ⟨g2, 0, none⟩)] w2 fun y w' => y = .returned (.tuple #[]) ∧ Hid (w'.cell? ⟨w1.heap.size + 1 + 1 + 1, 0, none⟩ = some (.bool true) ∧ w'.cell? ⟨w1.heap.size + 1 + 1, 0, none⟩ = some (.bool false) ∧ Below w.heap.size w w') from fun w1 w2 g1 g2 gp hb1 hb2 hs => by
    obtain ⟨q1, q2, q3, q4, qb⟩ := four w1 (.cells #[.string (rabV above m l).1] 9) (.cells #[.int .i64 (rabV above m l).2.1] 3) (.cells #[.bool (rabV above m l).2.2] 4) (.cells #[.bool true] 4)
    have bA := below_on B0.out hb1
    have b12 := below_on qb hb2
    have bAll := below_on bA b12
    have hsz := bA.size
    have X1 := hp_below (hp_below X0.out hb1 (hp_lt X0.out)) b12 (Nat.lt_of_lt_of_le (hp_lt X0.out) hb1.size)
    have hb : HB w2 (w1.heap.size + 1 + 1 + 1) (w1.heap.size + 1 + 1) w1.heap.size (w1.heap.size + 1) w.heap.size (rabV above m l).2.2 (rabV above m l).1 (rabV above m l).2.1 (.slice ao l.length cap) m :=
      ⟨hp_below q4 hb2 (hp_lt q4), hp_below q3 hb2 (hp_lt q3), hp_below q1 hb2 (hp_lt q1), hp_below q2 hb2 (hp_lt q2), X1, by omega⟩
    refine (held_loop (hz.below bAll) (h.below bAll) hl hks ha hs hb ?_ ?_).mono ?_
    · intro j hj hf
      have := hF j hf
      omega
    · intro j hj
      have := hlt j hj
      omega
    · rintro y w' ⟨rfl, ⟨k, x, hb'⟩, hk⟩
      refine ⟨rfl, hid ⟨cells1 hb'.ok, cells1 hb'.is, bAll.trans (hk.below bAll.size (fun j hj e => by omega))⟩⟩)
  clear hW0 hz h hl hks ha hF hlt
  generalize rabV above m l = ra at D1 LP
  obtain ⟨rk, rx, rq⟩ := ra
  simp only at D1 LP
  go_enter Try.func14, Try.ntmps14
  go_wp2_with (first
    | (go_at_call 44
       rw [HW.out]
       refine D1.out.mono ?_
       rintro e w1 ⟨rfl, hb⟩
       have B1 := hid hb
       clear hb D1)
    | (go_at_call 20
       refine (SN.out _).mono ?_
       rintro e w2 ⟨g1, g2, gp, rfl, hs, hb, -⟩
       have L2 := hid (LP.out w1 w2 g1 g2 gp B1.out hb hs)
       clear hb hs)
    | (go_at_call 75
       refine L2.out.mono ?_
       rintro e w3 ⟨rfl, N3⟩
       obtain ⟨n1, n2, -⟩ := N3.out
       clear L2))
  go_ret
  exact ⟨rfl, N3.out.2.2⟩

end Go.Proofs.Ythjggbcppgbdoaa
