import Derived.Test.YthjggbcppgbdoaaK21
import Derived.Test.YthjggbcppgbdoaaK20
import Derived.Test.YthjggbcppgbdoaaK18
namespace Go.Proofs.Ythjggbcppgbdoaa
open Go.RowKit

theorem e69 : ∀ args w, (callFunc 69 args).run Try.prog w = .ok (.enter 69 args) w := enters_of Try.func69 (by kernel_rfl) rfl

/-- Behind shot's loop. -/
def ShJ (bo bv bi ba by_ bn bs bw bx p : Nat) (x : Sp) (m : Bool) (l : List Pl) (F : Nat → Prop) (w W : World) : Prop := ∃ v' F' k y q ov n, HX W bo bv bi ba by_ bn bs bw bx p x v' m k y q ov n ∧ St W p v' m (shI x m 201 x.key 0 l) F' ∧ (∀ j, F' j → F j ∨ w.heap.size ≤ j) ∧ Kept (fun j => F j ∨ (j = bo ∨ j = bv ∨ j = bi ∨ j = ba ∨ j = by_ ∨ j = bn ∨ j = bw)) w W ∧ (ov = true ∨ q = false)

/-- What stands while it goes on. -/
structure ShI (bo bv bi ba by_ bn bs bw bx p : Nat) (x : Sp) (m : Bool) (l : List Pl) (N : Nat) (F : Nat → Prop) (w : World) (mm : Nat) (a : ByteArray) (W : World) (n : Int) (l1 : List Pl) (v1 : Value) (F1 : Nat → Prop) : Prop where
  mn : (mm : Int) + n = 201
  n0 : 0 ≤ n
  n1 : n ≤ 200
  rb : HX W bo bv bi ba by_ bn bs bw bx p x v1 m (rabV a m l1).1 (rabV a m l1).2.1 (rabV a m l1).2.2 false n
  st : St W p v1 m l1 F1
  gr : ∀ j, F1 j → F j ∨ w.heap.size ≤ j
  ke : Kept (fun j => F j ∨ (j = bo ∨ j = bv ∨ j = bi ∨ j = ba ∨ j = by_ ∨ j = bn ∨ j = bw)) w W
  bd : Bd (N + n.toNat) l1
  eq : shI x m mm a n l1 = shI x m 201 x.key 0 l

theorem ShI.below {bo bv bi ba by_ bn bs bw bx p : Nat} {x : Sp} {m : Bool} {l : List Pl} {N : Nat} {F : Nat → Prop} {w : World} {mm : Nat} {a : ByteArray} {W W' : World} {n : Int} {l1 : List Pl} {v1 : Value} {F1 : Nat → Prop} (h : ShI bo bv bi ba by_ bn bs bw bx p x m l N F w mm a W n l1 v1 F1) (hbl : Below W.heap.size W W') : ShI bo bv bi ba by_ bn bs bw bx p x m l N F w mm a W' n l1 v1 F1 :=
  ⟨h.mn, h.n0, h.n1, h.rb.below hbl, h.st.below hbl, h.gr, h.ke.trans (Kept.ofBelow hbl) (fun _ _ e => e.elim), h.bd, h.eq⟩

theorem sh_out {bo bv bi ba by_ bn bs bw bx p : Nat} {x : Sp} {m : Bool} {l : List Pl} {N : Nat} {F : Nat → Prop} {w : World} {mm : Nat} {a : ByteArray} {W : World} {n : Int} {l1 : List Pl} {v1 : Value} {F1 : Nat → Prop} (h : ShI bo bv bi ba by_ bn bs bw bx p x m l N F w mm a W n l1 v1 F1) (hq : (rabV a m l1).2.2 = false) : ShJ bo bv bi ba by_ bn bs bw bx p x m l F w W := by
  obtain ⟨mm', rfl⟩ : ∃ mm', mm = mm' + 1 := ⟨mm - 1, by have := h.mn; have := h.n1; omega⟩
  have el : shI x m (mm' + 1) a n l1 = l1 := by rw [shI, if_neg (by rw [hq]; simp)]
  have E := h.eq
  rw [el] at E
  exact ⟨v1, F1, _, _, _, _, n, h.rb, E ▸ h.st, h.gr, h.ke, .inr hq⟩

theorem sh_loop {w : World} {p : Nat} {F : Nat → Prop} {v : Value} {m : Bool} {l : List Pl} {N g1 g2 gp bo bv bi ba by_ bn bs bw bx : Nat} {x : Sp} (hst : St w p v m l F) (hbd : Bd N l) (hN : N ≤ 300000) (hko : x.other.size ≤ 50000) (hkk : x.key.size ≤ 50000)
    (hs : SnB w g1 g2 gp (some ⟨p, 0, none⟩) (bhd x.key)) (hb : HX w bo bv bi ba by_ bn bs bw bx p x v m (rabV x.key m l).1 (rabV x.key m l).2.1 (rabV x.key m l).2.2 false 0) (hF : ∀ j, (j = bo ∨ j = bv ∨ j = bi ∨ j = ba ∨ j = by_ ∨ j = bn ∨ j = bs ∨ j = bw ∨ j = bx) → ¬ F j) (hG : ∀ j, (j = g2 ∨ j = gp) → ¬ F j) :
    Calls Try.prog 75 #[.func (.func 69) #[] #[.pointer (some ⟨bo, 0, none⟩), .pointer (some ⟨bv, 0, none⟩), .pointer (some ⟨bi, 0, none⟩), .pointer (some ⟨ba, 0, none⟩), .pointer (some ⟨by_, 0, none⟩), .pointer (some ⟨bn, 0, none⟩), .pointer (some ⟨bs, 0, none⟩), .pointer (some ⟨bw, 0, none⟩), .pointer (some ⟨bx, 0, none⟩)], .pointer (some ⟨g1, 0, none⟩), .pointer (some ⟨g2, 0, none⟩)] w fun y w' => y = .returned (.tuple #[]) ∧ ShJ bo bv bi ba by_ bn bs bw bx p x m l F w w' := by
  have sg2 : ¬ (g2 = bo ∨ g2 = bv ∨ g2 = bi ∨ g2 = ba ∨ g2 = by_ ∨ g2 = bn ∨ g2 = bw) := by
    have := hs.s
    rintro (e | e | e | e | e | e | e)
    · subst e; rw [hb.o] at this; cases this
    · subst e; rw [hb.v] at this; cases this
    · subst e; rw [hb.i] at this; cases this
    · subst e; rw [hb.a] at this; cases this
    · subst e; rw [hb.y] at this; cases this
    · subst e; rw [hb.n] at this; cases this
    · subst e; rw [hb.w] at this; cases this
  have sgp : ¬ (gp = bo ∨ gp = bv ∨ gp = bi ∨ gp = ba ∨ gp = by_ ∨ gp = bn ∨ gp = bw) := by
    have := hs.p
    rintro (e | e | e | e | e | e | e)
    · subst e; rw [hb.o] at this; cases this
    · subst e; rw [hb.v] at this; cases this
    · subst e; rw [hb.i] at this; cases this
    · subst e; rw [hb.a] at this; cases this
    · subst e; rw [hb.y] at this; cases this
    · subst e; rw [hb.n] at this; cases this
    · subst e; rw [hb.w] at this; cases this
  have hlt := hb.lt
  have B : BodyS 57 #[.pointer (some ⟨gp, 0, none⟩)] 69 #[.pointer (some ⟨bo, 0, none⟩), .pointer (some ⟨bv, 0, none⟩), .pointer (some ⟨bi, 0, none⟩), .pointer (some ⟨ba, 0, none⟩), .pointer (some ⟨by_, 0, none⟩), .pointer (some ⟨bn, 0, none⟩), .pointer (some ⟨bs, 0, none⟩), .pointer (some ⟨bw, 0, none⟩), .pointer (some ⟨bx, 0, none⟩)] g2
      (fun mm frm W => ∃ a n l1 v1 F1, frm = bhd a ∧ a.size ≤ 50000 ∧ ShI bo bv bi ba by_ bn bs bw bx p x m l N F w mm a W n l1 v1 F1)
      (fun mm k y W => ∃ a n l1 v1 F1, (rabV a m l1).2.2 = true ∧ k = (rabV a m l1).1 ∧ y = (rabV a m l1).2.1 ∧ k.size ≤ 50000 ∧ ShI bo bv bi ba by_ bn bs bw bx p x m l N F w mm a W n l1 v1 F1)
      (ShJ bo bv bi ba by_ bn bs bw bx p x m l F w) := by
    refine ⟨?_, ?_, ?_, ?_⟩
    · rintro mm frm W ⟨a, n, l1, v1, F1, -, -, h⟩
      exact hp_kept hs.s h.ke (fun e => e.elim (hG g2 (by simp)) sg2)
    · rintro mm frm W ⟨a, n, l1, v1, F1, rfl, hsz, h⟩
      have hpW := hp_kept hs.p h.ke (fun e => e.elim (hG gp (by simp)) sgp)
      cases m
      · refine (find57_no (some ⟨p, 0, none⟩) (bhd a) gp W hpW (vmarked p l1 false F1 W h.st.z)).mono ?_
        rintro y w' ⟨rfl, hbl⟩
        exact .inl ⟨_, _, rfl, sh_out (h.below hbl) rfl⟩
      · have L := vleast58 p (bhd a) ⟨#[]⟩ l1 true F1 W h.st.z (by rw [bhd_size]; omega) (by decide)
        rw [least_held] at L
        refine (find57 (some ⟨p, 0, none⟩) (bhd a) gp _ _ _ W hpW (vmarked p l1 true F1 W h.st.z) L).mono ?_
        rintro y w' ⟨rfl, hbl⟩
        cases hf : l1.find? (abP a) with
        | none =>
          have hq := rab_none hf
          have hq2 : (rabV a true l1).2.2 = false := by rw [hq]
          refine .inl ⟨_, _, by rw [hq2], sh_out (h.below hbl) hq2⟩
        | some e =>
          obtain ⟨r1, r2, r3⟩ := rab_some hf
          have hq2 : (rabV a true l1).2.2 = true := by rw [r1]
          refine .inr ⟨_, _, by rw [hq2], a, n, l1, v1, F1, hq2, rfl, rfl, ?_, h.below hbl⟩
          rw [r1]
          exact h.bd.k e r2
    · rintro mm k y W ⟨a, n, l1, v1, F1, -, -, -, hsz, -⟩
      omega
    · rintro mm k y W ⟨a, n, l1, v1, F1, hq, rfl, rfl, hsz, h⟩
      have n0 := h.n0
      have n1 := h.n1
      have mn := h.mn
      have bt := turn_bd (m := m) h.bd hko
      have hF1 : ∀ j, (j = bo ∨ j = bv ∨ j = bi ∨ j = ba ∨ j = by_ ∨ j = bn ∨ j = bs ∨ j = bw ∨ j = bx) → ¬ F1 j := fun j hj hf => (h.gr j hf).elim (hF j hj) (fun q => by have := hlt j hj; omega)
      have hrb := h.rb
      rw [hq] at hrb
      refine (sh69 bo bv bi ba by_ bn bs bw bx p x v1 m _ _ l1 F1 n W hrb h.st hF1 (by have := h.bd.n; omega) (by have := bt.n; omega) (by omega) n0 n1 _ rfl).mono ?_
      rintro y w' ⟨rfl, v', F', r1, r2, r3, r4⟩
      have gr' : ∀ j, F' j → F j ∨ w.heap.size ≤ j := fun j hj => (r3 j hj).elim (h.gr j) (fun q => .inr (by have := h.ke.size; omega))
      have ke' : Kept (fun j => F j ∨ (j = bo ∨ j = bv ∨ j = bi ∨ j = ba ∨ j = by_ ∨ j = bn ∨ j = bw)) w w' := h.ke.trans r4 (fun i hi q => q.elim (fun q => (h.gr i q).elim .inl (fun q => by omega)) .inr)
      obtain ⟨mm', rfl⟩ : ∃ mm', mm = mm' + 1 := ⟨mm - 1, by omega⟩
      by_cases hov : n + 1 = x.n ∨ n + 1 > 200
      · have ho1 : (decide (n + 1 = x.n) || decide (n + 1 > 200)) = true := by simpa using hov
        rw [ho1] at r1 ⊢
        have el : shI x m (mm' + 1) a n l1 = turnL x m l1 := by rw [shI, if_pos hq, if_pos hov]
        have E := h.eq
        rw [el] at E
        exact .inl ⟨rfl, v', F', _, _, _, _, _, r1, E ▸ r2, gr', ke', .inl rfl⟩
      · have ho1 : (decide (n + 1 = x.n) || decide (n + 1 > 200)) = false := by simpa using hov
        rw [ho1] at r1 ⊢
        have el : shI x m (mm' + 1) a n l1 = shI x m mm' (rabV a m l1).1 (n + 1) (turnL x m l1) := by rw [shI, if_pos hq, if_neg hov]
        have E := h.eq
        rw [el] at E
        exact .inr ⟨rfl, mm', by omega, _, n + 1, _, v', F', rfl, hsz, ⟨by omega, by omega, by omega, r1, r2, gr', ke', bt.mono (by omega), E⟩⟩
  exact iterS B e57 e69 201 (bhd x.key) w ⟨x.key, 0, l, v, F, rfl, hkk, ⟨by omega, by omega, by omega, hb, hst, fun j hj => .inl hj, Kept.refl _ _, by simpa using hbd, rfl⟩⟩ hs.f

end Go.Proofs.Ythjggbcppgbdoaa

namespace Go.Proofs.Ythjggbcppgbdoaa
open Go.RowKit

/-- The first four boxes of shot. -/
structure S4 (w W : World) (p : Nat) (x : Sp) (v : Value) (m : Bool) : Prop where
  cs : W.heap[w.heap.size]? = some (.cells #[.pointer (some ⟨p, 0, none⟩)] 25 (0, 0))
  cw : W.heap[w.heap.size + 1]? = some (.cells #[v, .bool m] 34 (0, 0))
  cx : W.heap[w.heap.size + 1 + 1]? = some (.cells x.cells 36 (0, 0))
  cr : W.heap[w.heap.size + 1 + 1 + 1]? = some (.cells #[.slice none 0 0, .bool false] 34 (0, 0))
  b : Below w.heap.size w W

theorem S4.below {w W W' : World} {p : Nat} {x : Sp} {v : Value} {m : Bool} (h : S4 w W p x v m) (hb : Below W.heap.size W W') : S4 w W' p x v m :=
  ⟨hp_below h.cs hb (hp_lt h.cs), hp_below h.cw hb (hp_lt h.cw), hp_below h.cx hb (hp_lt h.cx), hp_below h.cr hb (hp_lt h.cr), below_on h.b hb⟩

abbrev sW (w : World) (p : Nat) (v : Value) (m : Bool) (x : Sp) : World := (((w.alloc (.cells #[.pointer (some ⟨p, 0, none⟩)] 25)).alloc (.cells #[v, .bool m] 34)).alloc (.cells x.cells 36)).alloc (.cells #[.slice none 0 0, .bool false] 34)

theorem sW_s4 (w : World) (p : Nat) (v : Value) (m : Bool) (x : Sp) : S4 w (sW w p v m x) p x v m := by
  obtain ⟨q1, q2, q3, q4, qb⟩ := four w (.cells #[.pointer (some ⟨p, 0, none⟩)] 25) (.cells #[v, .bool m] 34) (.cells x.cells 36) (.cells #[.slice none 0 0, .bool false] 34)
  exact ⟨q1, q2, q3, q4, qb⟩

abbrev s6 (W : World) (k : ByteArray) (y : Int) (q : Bool) : World := (((((W.alloc (.cells #[.string k] 9)).alloc (.cells #[.int .i64 y] 3)).alloc (.cells #[.bool q] 4)).alloc (.cells #[.bool true] 4)).alloc (.cells #[.int .i64 0] 3)).alloc (.cells #[.bool false] 4)

theorem s6_all (W : World) (k : ByteArray) (y : Int) (q : Bool) : (s6 W k y q).heap[W.heap.size]? = some (.cells #[.string k] 9 (0, 0)) ∧ (s6 W k y q).heap[W.heap.size + 1]? = some (.cells #[.int .i64 y] 3 (0, 0)) ∧ (s6 W k y q).heap[W.heap.size + 1 + 1]? = some (.cells #[.bool q] 4 (0, 0)) ∧ (s6 W k y q).heap[W.heap.size + 1 + 1 + 1]? = some (.cells #[.bool true] 4 (0, 0)) ∧ (s6 W k y q).heap[W.heap.size + 1 + 1 + 1 + 1]? = some (.cells #[.int .i64 0] 3 (0, 0)) ∧ (s6 W k y q).heap[W.heap.size + 1 + 1 + 1 + 1 + 1]? = some (.cells #[.bool false] 4 (0, 0)) ∧ Below W.heap.size W (s6 W k y q) ∧ (s6 W k y q).heap.size = W.heap.size + 6 := by
  obtain ⟨q1, q2, q3, q4, qb⟩ := four W (.cells #[.string k] 9) (.cells #[.int .i64 y] 3) (.cells #[.bool q] 4) (.cells #[.bool true] 4)
  have q5 := hp_new ((((W.alloc (.cells #[.string k] 9)).alloc (.cells #[.int .i64 y] 3)).alloc (.cells #[.bool q] 4)).alloc (.cells #[.bool true] 4)) (.cells #[.int .i64 0] 3)
  have q6 := hp_new (((((W.alloc (.cells #[.string k] 9)).alloc (.cells #[.int .i64 y] 3)).alloc (.cells #[.bool q] 4)).alloc (.cells #[.bool true] 4)).alloc (.cells #[.int .i64 0] 3)) (.cells #[.bool false] 4)
  refine ⟨hp_alloc (hp_alloc q1 _) _, hp_alloc (hp_alloc q2 _) _, hp_alloc (hp_alloc q3 _) _, hp_alloc (hp_alloc q4 _) _, hp_alloc (by simpa using q5) _, by simpa using q6, below_on qb (below_on (below_new _ _) (below_new _ _)), by simp [s6]⟩

/-- Behind the loop, ahead of the last statement. -/
def S10 (w : World) (p : Nat) (x : Sp) (m : Bool) (l : List Pl) (F : Nat → Prop) (A : Nat) (W : World) : Prop := ∃ v' F' q ov, St W p v' m (shI x m 201 x.key 0 l) F' ∧ (∀ j, F' j → F j ∨ w.heap.size ≤ j) ∧ ¬ F' (w.heap.size + 1 + 1 + 1) ∧ Kept F w W ∧ (ov = true ∨ q = false) ∧
  W.heap[w.heap.size + 1]? = some (.cells #[v', .bool m] 34 (0, 0)) ∧ W.heap[w.heap.size + 1 + 1 + 1]? = some (.cells #[.slice none 0 0, .bool false] 34 (0, 0)) ∧ W.heap[A + 1 + 1]? = some (.cells #[.bool q] 4 (0, 0)) ∧ W.heap[A + 1 + 1 + 1]? = some (.cells #[.bool true] 4 (0, 0)) ∧ W.heap[A + 1 + 1 + 1 + 1 + 1]? = some (.cells #[.bool ov] 4 (0, 0))

theorem sh_tail {w W w9 : World} {p : Nat} {x : Sp} {v : Value} {m : Bool} {l : List Pl} {F : Nat → Prop} {N g1 g2 gp : Nat} (h : S4 w W p x v m) (hst : St w p v m l F) (hbd : Bd N l) (hN : N ≤ 300000) (hko : x.other.size ≤ 50000) (hkk : x.key.size ≤ 50000)
    (h9 : Below (s6 W (rabV x.key m l).1 (rabV x.key m l).2.1 (rabV x.key m l).2.2).heap.size (s6 W (rabV x.key m l).1 (rabV x.key m l).2.1 (rabV x.key m l).2.2) w9) (hs : SnB w9 g1 g2 gp (some ⟨p, 0, none⟩) (bhd x.key)) (g2n : (s6 W (rabV x.key m l).1 (rabV x.key m l).2.1 (rabV x.key m l).2.2).heap.size ≤ g2) (gpn : (s6 W (rabV x.key m l).1 (rabV x.key m l).2.1 (rabV x.key m l).2.2).heap.size ≤ gp) :
    Calls Try.prog 75 #[.func (.func 69) #[] #[.pointer (some ⟨W.heap.size + 1 + 1 + 1, 0, none⟩), .pointer (some ⟨W.heap.size + 1 + 1 + 1 + 1 + 1, 0, none⟩), .pointer (some ⟨W.heap.size + 1 + 1, 0, none⟩), .pointer (some ⟨W.heap.size, 0, none⟩), .pointer (some ⟨W.heap.size + 1, 0, none⟩), .pointer (some ⟨W.heap.size + 1 + 1 + 1 + 1, 0, none⟩), .pointer (some ⟨w.heap.size, 0, none⟩), .pointer (some ⟨w.heap.size + 1, 0, none⟩), .pointer (some ⟨w.heap.size + 1 + 1, 0, none⟩)], .pointer (some ⟨g1, 0, none⟩), .pointer (some ⟨g2, 0, none⟩)] w9 fun y w' => y = .returned (.tuple #[]) ∧ S10 w p x m l F W.heap.size w' := by
  obtain ⟨q1, q2, q3, q4, q5, q6, qb, hsz⟩ := s6_all W (rabV x.key m l).1 (rabV x.key m l).2.1 (rabV x.key m l).2.2
  have W9 := h.below (below_on qb h9)
  have hW := h.b.size
  have hr := hp_lt h.cr
  have sF : ∀ k, ¬ F (w.heap.size + k) := fun k hk => by have := hst.fl _ hk; omega
  have sG : ∀ j, w.heap.size ≤ j → ¬ F j := fun j hj hf => by have := hst.fl _ hf; omega
  have hb : HX w9 (W.heap.size + 1 + 1 + 1) (W.heap.size + 1 + 1 + 1 + 1 + 1) (W.heap.size + 1 + 1) W.heap.size (W.heap.size + 1) (W.heap.size + 1 + 1 + 1 + 1) w.heap.size (w.heap.size + 1) (w.heap.size + 1 + 1) p x v m (rabV x.key m l).1 (rabV x.key m l).2.1 (rabV x.key m l).2.2 false 0 :=
    ⟨W9.cw, hp_below q4 h9 (hp_lt q4), hp_below q6 h9 (hp_lt q6), hp_below q3 h9 (hp_lt q3), hp_below q1 h9 (hp_lt q1), hp_below q2 h9 (hp_lt q2), hp_below q5 h9 (hp_lt q5), W9.cs, W9.cx, by omega, by omega, by omega, by omega⟩
  refine (sh_loop (hst.below W9.b) hbd hN hko hkk hs hb ?_ ?_).mono ?_
  · rintro j hj
    refine sG j ?_
    omega
  · rintro j hj
    refine sG j ?_
    omega
  · rintro y w' ⟨rfl, v', F', k', y', q', ov, n, r1, r2, r3, r4, r5⟩
    have nr : ¬ (F (w.heap.size + 1 + 1 + 1) ∨ (w.heap.size + 1 + 1 + 1 = W.heap.size + 1 + 1 + 1 ∨ w.heap.size + 1 + 1 + 1 = W.heap.size + 1 + 1 + 1 + 1 + 1 ∨ w.heap.size + 1 + 1 + 1 = W.heap.size + 1 + 1 ∨ w.heap.size + 1 + 1 + 1 = W.heap.size ∨ w.heap.size + 1 + 1 + 1 = W.heap.size + 1 ∨ w.heap.size + 1 + 1 + 1 = W.heap.size + 1 + 1 + 1 + 1 ∨ w.heap.size + 1 + 1 + 1 = w.heap.size + 1)) := by
      rintro (e | e)
      · exact sF 3 e
      · omega
    refine ⟨rfl, v', F', q', ov, r2, fun j hj => (r3 j hj).imp (fun e => e) (fun e => by have := W9.b.size; omega), ?_, ?_, r5, r1.w, hp_kept W9.cr r4 nr, r1.i, r1.o, r1.v⟩
    · intro hf
      rcases r3 _ hf with e | e
      · exact sF 3 e
      · have := h9.size
        omega
    · exact ((Kept.ofBelow W9.b).mono (S' := F) (fun _ _ e => e.elim)).trans r4 (fun i hi e => e.elim (fun e => e) (fun e => by omega))

set_option maxRecDepth 100000 in
set_option maxHeartbeats 4000000 in
theorem shot_any (x : Sp) (p : Nat) (v : Value) (m : Bool) (l : List Pl) (F : Nat → Prop) (N : Nat) (w : World) (hst : St w p v m l F) (hbd : Bd N l) (hN : N ≤ 300000) (hko : x.other.size ≤ 50000) (hkk : x.key.size ≤ 50000) :
    Calls Try.prog 39 #[.pointer (some ⟨p, 0, none⟩), .agg #[v, .bool m], x.agg] w fun y w' => ∃ v', y = .returned (.tuple #[.agg #[v', .bool m], .bool true]) ∧ After p m (shI x m 201 x.key 0 l) F w v' w' := by
  have hmf : ∀ (fn : Fn) (first cap : Array Value) (w : World), (Instr.makeFunc fn first cap).run Try.prog w = .ok (.func fn first cap) w := fun _ _ _ _ => rfl
  obtain ⟨ao, cap, e, -, -⟩ := hst.r.1.shape
  subst e
  have hn := hbd.n
  have TL := hid (fun W (h : S4 w W p x (.slice ao l.length cap) m) w9 g1 g2 gp h9 hs e2 ep => sh_tail (w9 := w9) (g1 := g1) (g2 := g2) (gp := gp) h hst hbd hN hko hkk h9 hs e2 ep)
  have SR := hid (fun W => ssnap_any (some ⟨p, 0, none⟩) x.key W (by omega))
  have H0 := hid (sW_s4 w p (.slice ao l.length cap) m x)
  have S6 := hid (fun W => s6_all W (rabV x.key m l).1 (rabV x.key m l).2.1 (rabV x.key m l).2.2)
  have D1 := hid (dabove (.slice ao l.length cap) m l x.key (sW w p (.slice ao l.length cap) m x) (hst.r.below (sW_s4 _ _ _ _ _).b) (by omega))
  obtain ⟨xk, xv, xn, key, to, oth⟩ := x
  simp only at TL SR H0 D1 S6
  clear hst hbd hN hko hkk hn
  generalize rabV key m l = gg at D1 TL S6
  obtain ⟨gk, gy, gq⟩ := gg
  simp only at D1 TL S6
  obtain ⟨y0, y1⟩ := cells2 H0.out.cw
  obtain ⟨x0, x1, x2, x3, x4, x5⟩ : (sW w p (.slice ao l.length cap) m ⟨xk, xv, xn, key, to, oth⟩).cell? ⟨w.heap.size + 1 + 1, 0, none⟩ = some (.int .i64 xk) ∧ (sW w p (.slice ao l.length cap) m ⟨xk, xv, xn, key, to, oth⟩).cell? ⟨w.heap.size + 1 + 1, 1, none⟩ = some (.int .i64 xv) ∧ (sW w p (.slice ao l.length cap) m ⟨xk, xv, xn, key, to, oth⟩).cell? ⟨w.heap.size + 1 + 1, 2, none⟩ = some (.int .i64 xn) ∧ (sW w p (.slice ao l.length cap) m ⟨xk, xv, xn, key, to, oth⟩).cell? ⟨w.heap.size + 1 + 1, 3, none⟩ = some (.string key) ∧ (sW w p (.slice ao l.length cap) m ⟨xk, xv, xn, key, to, oth⟩).cell? ⟨w.heap.size + 1 + 1, 4, none⟩ = some (.string to) ∧ (sW w p (.slice ao l.length cap) m ⟨xk, xv, xn, key, to, oth⟩).cell? ⟨w.heap.size + 1 + 1, 5, none⟩ = some (.string oth) := cells6 H0.out.cx
  unfold sW at y0 y1 x0 x1 x2 x3 x4 x5
  go_enter Try.func39, Try.ntmps39
  go_upto_region 6 with (first
    | (go_at_call 44
       refine D1.out.mono ?_
       rintro e w1 ⟨rfl, hb⟩
       have H1 := hid (H0.out.below hb)
       have H8 := hid (H1.out.below (S6.out w1).2.2.2.2.2.2.1)
       have z8 := cells1 H8.out.cs
       obtain ⟨u0, u1, u2, u3, u4, u5⟩ : (s6 w1 gk gy gq).cell? ⟨w.heap.size + 1 + 1, 0, none⟩ = some (.int .i64 xk) ∧ (s6 w1 gk gy gq).cell? ⟨w.heap.size + 1 + 1, 1, none⟩ = some (.int .i64 xv) ∧ (s6 w1 gk gy gq).cell? ⟨w.heap.size + 1 + 1, 2, none⟩ = some (.int .i64 xn) ∧ (s6 w1 gk gy gq).cell? ⟨w.heap.size + 1 + 1, 3, none⟩ = some (.string key) ∧ (s6 w1 gk gy gq).cell? ⟨w.heap.size + 1 + 1, 4, none⟩ = some (.string to) ∧ (s6 w1 gk gy gq).cell? ⟨w.heap.size + 1 + 1, 5, none⟩ = some (.string oth) := cells6 H8.out.cx
       unfold s6 at z8 u0 u1 u2 u3 u4 u5
       clear hb D1 H0 y0 y1 x0 x1 x2 x3 x4 x5)
    | (go_at_call 20
       refine (SR.out _).mono ?_
       rintro e w9 ⟨g1, g2, gp, rfl, hs, hb, e1, e2, ep⟩
       have L2 := hid (TL.out w1 H1.out w9 g1 g2 gp hb hs e2 ep)
       clear hb hs e1 e2 ep u0 u1 u2 u3 u4 u5 z8)
    | (go_at_call 75
       refine L2.out.mono ?_
       rintro e w10 ⟨rfl, hR⟩
       have RR := hid hR
       clear hR L2))
  obtain ⟨v', F', q', ov, r1, r2, r3, r4, r5, s1, s3, s5, s6, s7⟩ := RR.out
  obtain ⟨ao2, cap2, eu, -, -⟩ := r1.r.1.shape
  generalize (_ : List Pl).length = n2 at eu
  subst eu
  obtain ⟨d0, d1⟩ := cells2 s1
  obtain ⟨d2, d3⟩ := cells2 s3
  have d5 := cells1 s5
  have d6 := cells1 s6
  have d7 := cells1 s7
  have fr : ∀ j, w10.frozen? ⟨w.heap.size + 1 + 1 + 1, j, none⟩ = false := fun j => free_of_block s3
  have hcc : ov = true ∨ (ov = false ∧ q' = false) := by
    cases ov
    · rcases r5 with e | e
      · cases e
      · exact .inr ⟨rfl, e⟩
    · exact .inl rfl
  have FIN := hid (show ∀ w11, Below w10.heap.size w10 w11 → w11.heap[w.heap.size + 1 + 1 + 1]? = some (.cells #[.slice none 0 0, .bool false] 34 (0, 0)) ∧ After p m (shI ⟨xk, xv, xn, key, to, oth⟩ m 201 key 0 l) F w (.slice ao2 n2 cap2) ((w11.setCell ⟨w.heap.size + 1 + 1 + 1, 0, none⟩ (.slice ao2 n2 cap2)).setCell ⟨w.heap.size + 1 + 1 + 1, 1, none⟩ (.bool m)) from fun w11 hb => by
    have hx := hp_below s3 hb (hp_lt s3)
    refine ⟨hx, ?_⟩
    obtain ⟨F2, f1, f2, f3⟩ := st_fin (w := w) r1.z (r1.r.below hb) hb hx r3 (by omega) r4
    exact ⟨F2, f1, fun j hj => r2 j (f2 j hj), f3⟩)
  obtain ⟨k1, k2, k3⟩ : w.heap.size + 1 + 1 + 1 ≠ w1.heap.size + 1 + 1 ∧ w.heap.size + 1 + 1 + 1 ≠ w1.heap.size + 1 + 1 + 1 ∧ w.heap.size + 1 + 1 + 1 ≠ w1.heap.size + 1 + 1 + 1 + 1 + 1 := by
    have := hp_lt H1.out.cr
    omega
  clear RR r1 r2 r3 r4 r5 s1 s3 s5 s6 s7 TL SR H1 H8 S6
  rcases hcc with rfl | ⟨rfl, rfl⟩
  all_goals
    go_region
    go_wp2
    obtain ⟨g1, g2⟩ := FIN.out w10.drew (Below.refl _ _).drew
    refine bodyPost_ret (ret_agg34i Try.results39 rfl rfl (set2 g1 _ _)) rfl ?_
    exact ⟨_, rfl, g2⟩

end Go.Proofs.Ythjggbcppgbdoaa
