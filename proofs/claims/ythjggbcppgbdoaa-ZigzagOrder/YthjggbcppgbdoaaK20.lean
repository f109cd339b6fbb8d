import Derived.Test.YthjggbcppgbdoaaK19
namespace Go.Proofs.Ythjggbcppgbdoaa
open Go.RowKit

/-- A range whose body writes: what is left of the places. -/
def rgI (x : Sp) (m : Bool) : Nat → ByteArray → Int → List Pl → List Pl
  | 0, _, _, l => l
  | f + 1, frm, n, l => match leastP false frm x.to l with
    | none => l
    | some e => if n + 1 = x.n ∨ n + 1 > 200 then turnL x m l else rgI x m f (bhd e.1) (n + 1) (turnL x m l)
/-- A snapshot whose body writes. -/
def shI (x : Sp) (m : Bool) : Nat → ByteArray → Int → List Pl → List Pl
  | 0, _, _, l => l
  | f + 1, a, n, l => if (rabV a m l).2.2 = true then (if n + 1 = x.n ∨ n + 1 > 200 then turnL x m l else shI x m f (rabV a m l).1 (n + 1) (turnL x m l)) else l

/-- So many places at most, none of a key above fifty thousand bytes. -/
structure Bd (N : Nat) (l : List Pl) : Prop where
  n : l.length ≤ N
  k : ∀ e ∈ l, e.1.size ≤ 50000

theorem ri_le (key : ByteArray) (l : List Pl) : ri key l ≤ l.length := by unfold ri; exact (List.takeWhile_prefix _).length_le

theorem put_bd {N : Nat} {l : List Pl} {key : ByteArray} {v : Int} (h : Bd N l) (hk : key.size ≤ 50000) : Bd (N + 1) (rputL key v l) := by
  have hn := h.n
  have hr := ri_le key l
  have K : ∀ (s : Sd) (i j : Nat), ∀ e ∈ l.take i ++ (key, s) :: l.drop j, e.1.size ≤ 50000 := fun s i j e he => by
    rcases List.mem_append.1 he with h1 | h1
    · exact h.k e (List.mem_of_mem_take h1)
    · rcases List.mem_cons.1 h1 with rfl | h1
      · exact hk
      · exact h.k e (List.mem_of_mem_drop h1)
  unfold rputL
  split
  · rename_i e he
    have hi := (List.getElem?_eq_some_iff.1 he).1
    split
    · exact ⟨by simp; omega, K _ _ _⟩
    · exact ⟨by simp; omega, K _ _ _⟩
  · exact ⟨by simp; omega, K _ _ _⟩

theorem del_bd {N : Nat} {l : List Pl} {key : ByteArray} {m : Bool} (h : Bd N l) (hk : key.size ≤ 50000) : Bd N (rdelL key m l) := by
  have hn := h.n
  have K : ∀ (s : Sd), ri key l < l.length → Bd N (l.take (ri key l) ++ (key, s) :: l.drop (ri key l + 1)) := fun s hi => by
    refine ⟨by simp; omega, fun e he => ?_⟩
    rcases List.mem_append.1 he with h1 | h1
    · exact h.k e (List.mem_of_mem_take h1)
    · rcases List.mem_cons.1 h1 with rfl | h1
      · exact hk
      · exact h.k e (List.mem_of_mem_drop h1)
  unfold rdelL
  split
  · rename_i e he
    have hi : ri key l < l.length := (List.getElem?_eq_some_iff.1 he).1
    split
    · split
      · exact K _ hi
      · exact ⟨Nat.le_trans (List.length_filter_le _ _) (K _ hi).n, fun e he => (K _ hi).k e ((List.mem_filter.1 he).1)⟩
    · exact h
  · exact h

theorem turn_bd {N : Nat} {l : List Pl} {x : Sp} {m : Bool} (h : Bd N l) (hk : x.other.size ≤ 50000) : Bd (N + 1) (turnL x m l) := by
  unfold turnL
  split
  · have := del_bd (key := x.other) (m := m) h hk
    exact ⟨by have := this.n; omega, this.k⟩
  · exact put_bd h hk

theorem Bd.mono {N M : Nat} {l : List Pl} (h : Bd N l) (hm : N ≤ M) : Bd M l := ⟨by have := h.n; omega, h.k⟩

theorem rg_bd {x : Sp} {m : Bool} (hk : x.other.size ≤ 50000) : ∀ {f : Nat} {N : Nat} {frm : ByteArray} {n : Int} {l : List Pl}, Bd N l → Bd (N + f) (rgI x m f frm n l)
  | 0, _, _, _, _, h => h
  | f + 1, N, frm, n, l, h => by
    unfold rgI
    split
    · exact h.mono (by omega)
    · split
      · exact (turn_bd h hk).mono (by omega)
      · exact (rg_bd hk (turn_bd h hk)).mono (by omega)
theorem sh_bd {x : Sp} {m : Bool} (hk : x.other.size ≤ 50000) : ∀ {f : Nat} {N : Nat} {a : ByteArray} {n : Int} {l : List Pl}, Bd N l → Bd (N + f) (shI x m f a n l)
  | 0, _, _, _, _, h => h
  | f + 1, N, a, n, l, h => by
    unfold shI
    split
    · split
      · exact (turn_bd h hk).mono (by omega)
      · exact (sh_bd hk (turn_bd h hk)).mono (by omega)
    · exact h.mono (by omega)

/-- What a step makes of places and mark. -/
def stepL (x : Sp) (l : List Pl) (m : Bool) : List Pl × Bool :=
  if x.kind = 1 then (rputL x.key x.v l, m) else
  if x.kind = 2 then (rdelL x.key m l, m) else
  if x.kind = 3 then (if m then l else l.map mkE, true) else
  if x.kind = 4 then (if m then l.filter keepP else l, false) else
  if x.kind = 5 then (rgI x m 201 x.key 0 l, m) else
  if x.kind = 6 then (shI x m 201 x.key 0 l, m) else (l, m)

theorem step_bd {N : Nat} {l : List Pl} {x : Sp} {m : Bool} (h : Bd N l) (hk : x.key.size ≤ 50000) (ho : x.other.size ≤ 50000) : Bd (N + 201) (stepL x l m).1 := by
  unfold stepL
  split
  · exact (put_bd h hk).mono (by omega)
  split
  · exact (del_bd h hk).mono (by omega)
  split
  · cases m
    · exact ⟨by have := h.n; simp; omega, fun e he => by
        simp only [Bool.false_eq_true, if_false] at he
        obtain ⟨e', he', rfl⟩ := List.mem_map.1 he
        exact h.k e' he'⟩
    · exact h.mono (by omega)
  split
  · cases m
    · exact h.mono (by omega)
    · exact ⟨Nat.le_trans (List.length_filter_le _ _) (by have := h.n; omega), fun e he => h.k e ((List.mem_filter.1 he).1)⟩
  split
  · exact rg_bd ho h
  split
  · exact sh_bd ho h
  · exact h.mono (by omega)

end Go.Proofs.Ythjggbcppgbdoaa

namespace Go.Proofs.Ythjggbcppgbdoaa
open Go.RowKit

/-- Which key a search will find next. -/
def Cur (frm : ByteArray) (l : List Pl) (k : ByteArray) (q : Bool) : Prop := (leastP false frm ⟨#[]⟩ l = none ∧ q = false) ∨ ∃ e, leastP false frm ⟨#[]⟩ l = some e ∧ q = true ∧ k = e.1

theorem cur_next (k : ByteArray) (l : List Pl) : Cur (bhd k) l (nxP k l).1 (nxP k l).2 := by
  unfold Cur leastP nxP rnx
  rw [fit_next]
  cases l.find? (fun e => kl k e.1 && e.2.has e.2.r) with
  | none => exact .inl ⟨rfl, rfl⟩
  | some e => exact .inr ⟨e, rfl, rfl, rfl⟩

theorem cur_first {K : ByteArray} {l : List Pl} (h : l.Pairwise (fun a b => kl a.1 b.1 = true)) : Cur K l (if (rgetV K l).2 = true then K else (nxP K l).1) (if (rgetV K l).2 = true then true else (nxP K l).2) := by
  obtain ⟨h1, h2⟩ := least_first (K := K) h
  cases hg : (rgetV K l).2
  · simp only [Bool.false_eq_true, if_false]
    unfold Cur
    rw [h2 hg]
    unfold nxP
    cases rnx K l with
    | none => exact .inl ⟨rfl, rfl⟩
    | some e => exact .inr ⟨e, rfl, rfl, rfl⟩
  · simp only [if_true]
    obtain ⟨e, he, hk⟩ := h1 hg
    exact .inr ⟨e, he, rfl, hk.symm⟩

/-- The boxes of all: the document's store, ok, has, n. -/
structure AB (W : World) (bw bo bh bn : Nat) (v : Value) (m q : Bool) (k : ByteArray) : Prop where
  w : W.heap[bw]? = some (.cells #[v, .bool m] 34 (0, 0))
  o : W.heap[bo]? = some (.cells #[.bool true] 4 (0, 0))
  h : W.heap[bh]? = some (.cells #[.bool q] 4 (0, 0))
  n : W.heap[bn]? = some (.cells #[.string k] 9 (0, 0))
  ne : bo ≠ bh

theorem AB.below {W W' : World} {bw bo bh bn : Nat} {v : Value} {m q : Bool} {k : ByteArray} (h : AB W bw bo bh bn v m q k) (hb : Below W.heap.size W W') : AB W' bw bo bh bn v m q k :=
  ⟨hp_below h.w hb (hp_lt h.w), hp_below h.o hb (hp_lt h.o), hp_below h.h hb (hp_lt h.h), hp_below h.n hb (hp_lt h.n), h.ne⟩

set_option maxRecDepth 100000 in
set_option maxHeartbeats 4000000 in
theorem all46 (bw bo bh bn : Nat) (k : ByteArray) (y : Int) (v : Value) (m : Bool) (l : List Pl) (w : World) (h : AB w bw bo bh bn v m true k) (hr : RL w v l) (hl : l.length ≤ 500000) (hg : rgetV k l = (y, true)) :
    Calls Try.prog 46 #[.string k, .int .i64 y, .pointer (some ⟨bw, 0, none⟩), .pointer (some ⟨bo, 0, none⟩), .pointer (some ⟨bh, 0, none⟩), .pointer (some ⟨bn, 0, none⟩)] w fun e w' => e = .returned (.bool true) ∧ AB w' bw bo bh bn v m (nxP k l).2 (nxP k l).1 ∧ Kept (fun j => j = bo ∨ j = bh ∨ j = bn) w w' := by
  obtain ⟨ao, cap, ev, -, -⟩ := hr.1.shape
  subst ev
  have noh := h.ne
  have nwo : bw ≠ bo := by intro e; subst e; have := h.w; rw [h.o] at this; cases this
  have nwh : bw ≠ bh := by intro e; subst e; have := h.w; rw [h.h] at this; cases this
  have nwn : bw ≠ bn := by intro e; subst e; have := h.w; rw [h.n] at this; cases this
  have non : bo ≠ bn := by intro e; subst e; have := h.o; rw [h.n] at this; cases this
  have nhn : bh ≠ bn := by intro e; subst e; have := h.h; rw [h.n] at this; cases this
  obtain ⟨c5, c6⟩ := cells2 h.w
  have offo : ∀ j, (Value.slice ao l.length cap).ownBlock = some j → ¬ j = bo := fun j hj e => by subst e; exact rl_apart hr hj h.o (by simp)
  have D1 := hid (show Calls Try.prog 40 #[.agg #[.slice ao l.length cap, .bool m], .string k] w fun e w' => e = .returned (.tuple #[.int .i64 y, .bool true]) ∧ Below w.heap.size w w' from (rget_any _ m l k w hr.1 (by omega)).mono (by
    rintro e w' ⟨rfl, h⟩
    rw [hg]
    exact ⟨rfl, h⟩))
  have H0 := hid h
  have D2 := hid (show ∀ w1, Below w.heap.size w w1 → _ from fun w1 hb => dnext (.slice ao l.length cap) m l k (w1.setCell ⟨bo, 0, none⟩ (.bool true)) ⟨(hr.below hb).1.kept ((Kept.refl (fun j => j = bo) w1).setCell (p := ⟨bo, 0, none⟩) (fun _ => rfl) (.bool true)) offo, hr.2⟩ (by omega))
  clear h hr hl hg offo
  generalize nxP k l = nn at D2 ⊢
  obtain ⟨nk, nq⟩ := nn
  simp only at D2 ⊢
  go_enter Try.func46, Try.ntmps46
  go_wp2_with (first
    | (go_at_call 40
       refine D1.out.mono ?_
       rintro e w1 ⟨rfl, hb⟩
       have H1 := hid (H0.out.below hb)
       have B1 := hid hb
       obtain ⟨d5, d6⟩ := cells2 H1.out.w
       have d1 := cells1 H1.out.o
       have d2 := cells1 H1.out.h
       have d3 := cells1 H1.out.n
       have f1 : w1.frozen? ⟨bo, 0, none⟩ = false := free_of_block H1.out.o
       clear hb D1 c5 c6)
    | (go_at_call 41
       refine (D2.out w1 B1.out).mono ?_
       rintro e w2 ⟨rfl, hb⟩
       have K1 := hid (show Kept (fun j => j = bo) w (w1.setCell ⟨bo, 0, none⟩ (.bool true)) from (((Kept.ofBelow B1.out).mono (S' := fun j => j = bo) (fun _ _ e => e.elim)).setCell (p := ⟨bo, 0, none⟩) (fun _ => rfl) (.bool true)))
       have H2 := hid (show AB w2 bw bo bh bn (.slice ao l.length cap) m true k from AB.below (W := w1.setCell ⟨bo, 0, none⟩ (.bool true)) ⟨hp_set H1.out.w nwo _, set_block (i := 0) H1.out.o _, hp_set H1.out.h (fun e => noh e.symm) _, hp_set H1.out.n (fun e => non e.symm) _, noh⟩ hb)
       have K2 := hid (K1.out.trans (Kept.ofBelow hb) (fun _ _ e => e.elim))
       have d1 := cells1 H2.out.o
       have d2 := cells1 H2.out.h
       have d3 := cells1 H2.out.n
       have f2 : w2.frozen? ⟨bh, 0, none⟩ = false := free_of_block H2.out.h
       have f3 : w2.frozen? ⟨bn, 0, none⟩ = false := free_of_block H2.out.n
       clear hb D2))
  go_ret
  have h2 := H2.out
  refine ⟨rfl, ⟨?_, ?_, ?_, ?_, noh⟩, ?_⟩
  · exact hp_set (hp_set h2.w nwn _) nwh _
  · exact hp_set (hp_set h2.o non _) noh _
  · exact set_block (i := 0) (hp_set h2.h nhn _) _
  · exact hp_set (set_block (i := 0) h2.n _) (fun e => nhn e.symm) _
  · exact ((K2.out.mono (fun _ _ e => .inl e)).setCell (p := ⟨bn, 0, none⟩) (fun _ => .inr (.inr rfl)) _).setCell (p := ⟨bh, 0, none⟩) (fun _ => .inr (.inl rfl)) _

theorem e46 : ∀ args w, (callFunc 46 args).run Try.prog w = .ok (.enter 46 args) w := enters_of Try.func46 (by kernel_rfl) rfl

theorem leastW_none {h : Bool} {frm to : ByteArray} {l : List Pl} (e : leastP h frm to l = none) : leastW h frm to l = (⟨#[]⟩, 0, false) := by unfold leastW; rw [e]
theorem leastW_some {h : Bool} {frm to : ByteArray} {l : List Pl} {x : Pl} (e : leastP h frm to l = some x) : leastW h frm to l = (x.1, (see h x.2).1, true) := by unfold leastW; rw [e]

/-- The range of both, key by key. -/
theorem all_loop {w : World} {p : Nat} {F : Nat → Prop} {v : Value} {m : Bool} {l : List Pl} {g1 g2 gp ge bw bo bh bn : Nat} {k0 : ByteArray} {q0 : Bool} (hz : ZV w p l m F) (hr : RL w v l) (hl : l.length ≤ 500000) (hks : ∀ e ∈ l, e.1.size ≤ 281474976710000)
    (hs : RgB w g1 g2 gp ge (some ⟨p, 0, none⟩) ⟨#[]⟩ ⟨#[]⟩) (h : AB w bw bo bh bn v m q0 k0) (hc : Cur ⟨#[]⟩ l k0 q0) (hF : ∀ j, (j = bo ∨ j = bh ∨ j = bn) → ¬ F j) (he : ge ≠ bn) :
    Calls Try.prog 75 #[.func (.func 46) #[] #[.pointer (some ⟨bw, 0, none⟩), .pointer (some ⟨bo, 0, none⟩), .pointer (some ⟨bh, 0, none⟩), .pointer (some ⟨bn, 0, none⟩)], .pointer (some ⟨g1, 0, none⟩), .pointer (some ⟨g2, 0, none⟩)] w fun y w' => y = .returned (.tuple #[]) ∧ (∃ k, AB w' bw bo bh bn v m false k) ∧ Kept (fun j => j = bo ∨ j = bh ∨ j = bn) w w' := by
  have hso := hz.sorted
  have sg : ¬ (g2 = bo ∨ g2 = bh ∨ g2 = bn) := by
    have := hs.s
    rintro (e | e | e) <;> subst e
    · rw [h.o] at this; cases this
    · rw [h.h] at this; cases this
    · rw [h.n] at this; cases this
  have sp : ¬ (gp = bo ∨ gp = bh ∨ gp = bn) := by
    have := hs.p
    rintro (e | e | e) <;> subst e
    · rw [h.o] at this; cases this
    · rw [h.h] at this; cases this
    · rw [h.n] at this; cases this
  have se : ¬ (ge = bo ∨ ge = bh ∨ ge = bn) := by
    have := hs.e
    rintro (e | e | e)
    · subst e; rw [Bx, h.o] at this; cases this
    · subst e; rw [Bx, h.h] at this; cases this
    · exact he e
  have B : BodyS 54 #[.pointer (some ⟨gp, 0, none⟩), .pointer (some ⟨ge, 0, none⟩)] 46 #[.pointer (some ⟨bw, 0, none⟩), .pointer (some ⟨bo, 0, none⟩), .pointer (some ⟨bh, 0, none⟩), .pointer (some ⟨bn, 0, none⟩)] g2
      (fun mm frm W => ∃ k q, frm.size ≤ 281474976710001 ∧ mm = l.countP (fun e => !kl e.1 frm) ∧ Cur frm l k q ∧ AB W bw bo bh bn v m q k ∧ Kept (fun j => j = bo ∨ j = bh ∨ j = bn) w W)
      (fun mm k x W => ∃ frm e, mm = l.countP (fun e => !kl e.1 frm) ∧ leastP false frm ⟨#[]⟩ l = some e ∧ k = e.1 ∧ x = (see false e.2).1 ∧ AB W bw bo bh bn v m true k ∧ Kept (fun j => j = bo ∨ j = bh ∨ j = bn) w W)
      (fun W => (∃ k, AB W bw bo bh bn v m false k) ∧ Kept (fun j => j = bo ∨ j = bh ∨ j = bn) w W) := by
    refine ⟨?_, ?_, ?_, ?_⟩
    · rintro mm frm W ⟨k, q, -, -, -, -, hk⟩
      exact hp_kept hs.s hk sg
    · rintro mm frm W ⟨k, q, hsz, rfl, hcu, hb, hk⟩
      have hzW := hz.kept hk (fun j hj e => hF j e hj)
      have hpW := hp_kept hs.p hk sp
      have heW : Bx W ge ⟨#[]⟩ := hp_kept hs.e hk se
      have L := vleast49 p frm ⟨#[]⟩ l m F W hzW (by omega) (by decide)
      rcases hcu with ⟨hn, rfl⟩ | ⟨e, hn, rfl, rfl⟩
      · rw [leastW_none hn] at L
        refine (find54 (some ⟨p, 0, none⟩) frm ⟨#[]⟩ gp ge _ _ _ W hpW heW L).mono ?_
        rintro y w' ⟨rfl, hbl⟩
        exact .inl ⟨_, _, rfl, ⟨_, hb.below hbl⟩, hk.trans (Kept.ofBelow hbl) (fun _ _ e => e.elim)⟩
      · rw [leastW_some hn] at L
        refine (find54 (some ⟨p, 0, none⟩) frm ⟨#[]⟩ gp ge _ _ _ W hpW heW L).mono ?_
        rintro y w' ⟨rfl, hbl⟩
        exact .inr ⟨_, _, rfl, frm, e, rfl, hn, rfl, rfl, hb.below hbl, hk.trans (Kept.ofBelow hbl) (fun _ _ e => e.elim)⟩
    · rintro mm k x W ⟨frm, e, -, he, rfl, -⟩
      exact hks e (least_get hso he).2.1
    · rintro mm k x W ⟨frm, e, rfl, he, rfl, rfl, hb, hk⟩
      obtain ⟨g1, g2, g3⟩ := least_get hso he
      have hrW : RL W v l := ⟨hr.1.kept hk (fun j hj q => by
        rcases q with q | q | q <;> subst q
        · exact rl_apart hr hj h.o (by simp)
        · exact rl_apart hr hj h.h (by simp)
        · exact rl_apart hr hj h.n (by simp)), hr.2⟩
      refine (all46 bw bo bh bn e.1 _ v m l W hb hrW hl g1).mono ?_
      rintro y w' ⟨rfl, hb', hk'⟩
      refine .inr ⟨rfl, l.countP (fun e' => !kl e'.1 (bhd e.1)), ?_, _, _, by rw [bhd_size]; have := hks e g2; omega, rfl, cur_next e.1 l, hb', hk.trans hk' (fun _ _ q => q)⟩
      refine count_less (x := e) (fun y _ hy => ?_) g2 (by rw [g3]; rfl) (by rw [kl_behind, kl_irrefl]; rfl)
      rw [kl_behind] at hy
      simp only [Bool.not_not] at hy
      cases hyf : kl y.1 frm
      · rfl
      · have := kl_trans hy hyf
        rw [g3] at this
        cases this
  exact iterS B e54 e46 _ ⟨#[]⟩ w ⟨k0, q0, by decide, rfl, hc, h, Kept.refl _ _⟩ hs.f

end Go.Proofs.Ythjggbcppgbdoaa

namespace Go.Proofs.Ythjggbcppgbdoaa
open Go.RowKit

theorem e67 : ∀ args w, (callFunc 67 args).run Try.prog w = .ok (.enter 67 args) w := enters_of Try.func67 (by kernel_rfl) rfl

theorem RB.lt {W : World} {bw ba bo bv bi bx bn bs p : Nat} {x : Sp} {v : Value} {m : Bool} {k : ByteArray} {q ov : Bool} {n : Int} (h : RB W bw ba bo bv bi bx bn bs p x v m k q ov n) : ∀ j, (j = bw ∨ j = ba ∨ j = bo ∨ j = bv ∨ j = bi ∨ j = bx ∨ j = bn ∨ j = bs) → j < W.heap.size := by
  rintro j (e | e | e | e | e | e | e | e) <;> subst e
  · exact hp_lt h.w
  · exact hp_lt h.a
  · exact hp_lt h.o
  · exact hp_lt h.v
  · exact hp_lt h.i
  · exact hp_lt h.x
  · exact hp_lt h.n
  · exact hp_lt h.s

/-- Behind ranged's loop. -/
def RgJ (bw ba bo bv bi bx bn bs p : Nat) (x : Sp) (m : Bool) (l : List Pl) (F : Nat → Prop) (w W : World) : Prop := ∃ v' F' k q ov n, RB W bw ba bo bv bi bx bn bs p x v' m k q ov n ∧ St W p v' m (rgI x m 201 x.key 0 l) F' ∧ (∀ j, F' j → F j ∨ w.heap.size ≤ j) ∧ Kept (fun j => F j ∨ (j = bw ∨ j = ba ∨ j = bo ∨ j = bv ∨ j = bi ∨ j = bn)) w W ∧ (ov = true ∨ q = false ∨ (x.to.toList ≠ [] ∧ kl x.to k = true))

/-- What stands while it goes on. -/
structure RgI (bw ba bo bv bi bx bn bs p : Nat) (x : Sp) (m : Bool) (l : List Pl) (N : Nat) (F : Nat → Prop) (w : World) (mm : Nat) (frm : ByteArray) (W : World) (n : Int) (l1 : List Pl) (v1 : Value) (k : ByteArray) (q : Bool) (F1 : Nat → Prop) : Prop where
  mn : (mm : Int) + n = 201
  n0 : 0 ≤ n
  n1 : n ≤ 200
  rb : RB W bw ba bo bv bi bx bn bs p x v1 m k q false n
  st : St W p v1 m l1 F1
  gr : ∀ j, F1 j → F j ∨ w.heap.size ≤ j
  ke : Kept (fun j => F j ∨ (j = bw ∨ j = ba ∨ j = bo ∨ j = bv ∨ j = bi ∨ j = bn)) w W
  bd : Bd (N + n.toNat) l1
  eq : rgI x m mm frm n l1 = rgI x m 201 x.key 0 l

theorem rg_loop {w : World} {p : Nat} {F : Nat → Prop} {v : Value} {m : Bool} {l : List Pl} {N g1 g2 gp ge bw ba bo bv bi bx bn bs : Nat} {x : Sp} {k0 : ByteArray} {q0 : Bool} (hst : St w p v m l F) (hbd : Bd N l) (hN : N ≤ 300000) (hko : x.other.size ≤ 50000) (hkt : x.to.size ≤ 50000) (hkk : x.key.size ≤ 50000)
    (hs : RgB w g1 g2 gp ge (some ⟨p, 0, none⟩) x.key x.to) (hb : RB w bw ba bo bv bi bx bn bs p x v m k0 q0 false 0) (hc : Cur x.key l k0 q0) (hF : ∀ j, (j = bw ∨ j = ba ∨ j = bo ∨ j = bv ∨ j = bi ∨ j = bx ∨ j = bn ∨ j = bs) → ¬ F j) (hG : ∀ j, (j = g2 ∨ j = gp ∨ j = ge) → ¬ F j) (he : ge ≠ ba) :
    Calls Try.prog 75 #[.func (.func 67) #[] #[.pointer (some ⟨bw, 0, none⟩), .pointer (some ⟨ba, 0, none⟩), .pointer (some ⟨bo, 0, none⟩), .pointer (some ⟨bv, 0, none⟩), .pointer (some ⟨bi, 0, none⟩), .pointer (some ⟨bx, 0, none⟩), .pointer (some ⟨bn, 0, none⟩), .pointer (some ⟨bs, 0, none⟩)], .pointer (some ⟨g1, 0, none⟩), .pointer (some ⟨g2, 0, none⟩)] w fun y w' => y = .returned (.tuple #[]) ∧ RgJ bw ba bo bv bi bx bn bs p x m l F w w' := by
  have sg2 : ¬ (g2 = bw ∨ g2 = ba ∨ g2 = bo ∨ g2 = bv ∨ g2 = bi ∨ g2 = bn) := by
    have := hs.s
    rintro (e | e | e | e | e | e)
    · subst e; rw [hb.w] at this; cases this
    · subst e; rw [hb.a] at this; cases this
    · subst e; rw [hb.o] at this; cases this
    · subst e; rw [hb.v] at this; cases this
    · subst e; rw [hb.i] at this; cases this
    · subst e; rw [hb.n] at this; cases this
  have sgp : ¬ (gp = bw ∨ gp = ba ∨ gp = bo ∨ gp = bv ∨ gp = bi ∨ gp = bn) := by
    have := hs.p
    rintro (e | e | e | e | e | e)
    · subst e; rw [hb.w] at this; cases this
    · subst e; rw [hb.a] at this; cases this
    · subst e; rw [hb.o] at this; cases this
    · subst e; rw [hb.v] at this; cases this
    · subst e; rw [hb.i] at this; cases this
    · subst e; rw [hb.n] at this; cases this
  have sge : ¬ (ge = bw ∨ ge = ba ∨ ge = bo ∨ ge = bv ∨ ge = bi ∨ ge = bn) := by
    have := hs.e
    rintro (e | e | e | e | e | e)
    · subst e; unfold Bx at this; rw [hb.w] at this; cases this
    · exact he e
    · subst e; unfold Bx at this; rw [hb.o] at this; cases this
    · subst e; unfold Bx at this; rw [hb.v] at this; cases this
    · subst e; unfold Bx at this; rw [hb.i] at this; cases this
    · subst e; unfold Bx at this; rw [hb.n] at this; cases this
  have hlt := hb.lt
  have B : BodyS 54 #[.pointer (some ⟨gp, 0, none⟩), .pointer (some ⟨ge, 0, none⟩)] 67 #[.pointer (some ⟨bw, 0, none⟩), .pointer (some ⟨ba, 0, none⟩), .pointer (some ⟨bo, 0, none⟩), .pointer (some ⟨bv, 0, none⟩), .pointer (some ⟨bi, 0, none⟩), .pointer (some ⟨bx, 0, none⟩), .pointer (some ⟨bn, 0, none⟩), .pointer (some ⟨bs, 0, none⟩)] g2
      (fun mm frm W => frm.size ≤ 50001 ∧ ∃ n l1 v1 k q F1, Cur frm l1 k q ∧ RgI bw ba bo bv bi bx bn bs p x m l N F w mm frm W n l1 v1 k q F1)
      (fun mm k y W => ∃ frm n l1 v1 F1 e, leastP false frm x.to l1 = some e ∧ k = e.1 ∧ y = (see false e.2).1 ∧ RgI bw ba bo bv bi bx bn bs p x m l N F w mm frm W n l1 v1 k true F1)
      (RgJ bw ba bo bv bi bx bn bs p x m l F w) := by
    refine ⟨?_, ?_, ?_, ?_⟩
    · rintro mm frm W ⟨-, n, l1, v1, k, q, F1, -, h⟩
      exact hp_kept hs.s h.ke (fun e => e.elim (hG g2 (by simp)) sg2)
    · rintro mm frm W ⟨hsz, n, l1, v1, k, q, F1, hcu, h⟩
      have hpW := hp_kept hs.p h.ke (fun e => e.elim (hG gp (by simp)) sgp)
      have heW : Bx W ge x.to := hp_kept hs.e h.ke (fun e => e.elim (hG ge (by simp)) sge)
      have L := vleast49 p frm x.to l1 m F1 W h.st.z (by omega) (by omega)
      have hso := h.st.z.sorted
      have hbo := least_bound (frm := frm) (to := x.to) hso
      obtain ⟨mm', rfl⟩ : ∃ mm', mm = mm' + 1 := ⟨mm - 1, by have := h.mn; have := h.n1; omega⟩
      cases hf : leastP false frm x.to l1 with
      | none =>
        rw [leastW_none hf] at L
        refine (find54 (some ⟨p, 0, none⟩) frm x.to gp ge _ _ _ W hpW heW L).mono ?_
        rintro y w' ⟨rfl, hbl⟩
        have el : rgI x m (mm' + 1) frm n l1 = l1 := by unfold rgI; rw [hf]
        have E := h.eq
        rw [el] at E
        refine .inl ⟨_, _, rfl, v1, F1, k, q, false, n, h.rb.below hbl, E ▸ h.st.below hbl, h.gr, h.ke.trans (Kept.ofBelow hbl) (fun _ _ e => e.elim), ?_⟩
        rcases hcu with ⟨-, hq⟩ | ⟨e, hn, -, rfl⟩
        · exact .inr (.inl hq)
        · rw [hf, hn] at hbo
          have hb2 : ((x.to.toList == []) || !kl x.to e.1) = false := by
            cases hc2 : ((x.to.toList == []) || !kl x.to e.1)
            · rfl
            · rw [Option.filter_some_pos (by simpa using hc2)] at hbo
              cases hbo
          simp only [Bool.or_eq_false_iff, Bool.not_eq_false'] at hb2
          exact .inr (.inr ⟨by simpa using hb2.1, hb2.2⟩)
      | some e =>
        rw [leastW_some hf] at L
        refine (find54 (some ⟨p, 0, none⟩) frm x.to gp ge _ _ _ W hpW heW L).mono ?_
        rintro y w' ⟨rfl, hbl⟩
        have hce : q = true ∧ k = e.1 := by
          rw [hf] at hbo
          rcases hcu with ⟨hn, -⟩ | ⟨e', hn, hq, hk⟩
          · rw [hn] at hbo; cases hbo
          · rw [hn] at hbo
            have := (Option.filter_eq_some_iff.1 hbo.symm).1
            cases this
            exact ⟨hq, hk⟩
        obtain ⟨rfl, rfl⟩ := hce
        exact .inr ⟨_, _, rfl, frm, n, l1, v1, F1, e, hf, rfl, rfl, ⟨h.mn, h.n0, h.n1, h.rb.below hbl, h.st.below hbl, h.gr, h.ke.trans (Kept.ofBelow hbl) (fun _ _ e => e.elim), h.bd, h.eq⟩⟩
    · rintro mm k y W ⟨frm, n, l1, v1, F1, e, hf, rfl, -, h⟩
      have := h.bd.k e (least_get h.st.z.sorted hf).2.1
      omega
    · rintro mm k y W ⟨frm, n, l1, v1, F1, e, hf, rfl, rfl, h⟩
      obtain ⟨a1, a2, a3⟩ := least_get h.st.z.sorted hf
      have hto : x.to.toList = [] ∨ kl x.to e.1 = false := by
        have := List.find?_some hf
        unfold fitP at this
        simp only [Bool.and_eq_true, Bool.or_eq_true, Bool.not_eq_true', beq_iff_eq] at this
        exact this.1.2
      have n0 := h.n0
      have n1 := h.n1
      have mn := h.mn
      have bt := turn_bd (m := m) h.bd hko
      have hF1 : ∀ j, (j = bw ∨ j = ba ∨ j = bo ∨ j = bv ∨ j = bi ∨ j = bx ∨ j = bn ∨ j = bs) → ¬ F1 j := fun j hj hf => (h.gr j hf).elim (hF j hj) (fun q => by have := hlt j hj; omega)
      refine (rg67 bw ba bo bv bi bx bn bs p x v1 m e.1 _ l1 F1 n W h.rb h.st hF1 a1 hto (by have := h.bd.n; omega) (by have := bt.n; omega) (by omega) n0 n1 _ rfl).mono ?_
      rintro y w' ⟨rfl, v', F', r1, r2, r3, r4⟩
      have gr' : ∀ j, F' j → F j ∨ w.heap.size ≤ j := fun j hj => (r3 j hj).elim (h.gr j) (fun q => .inr (by have := h.ke.size; omega))
      have ke' : Kept (fun j => F j ∨ (j = bw ∨ j = ba ∨ j = bo ∨ j = bv ∨ j = bi ∨ j = bn)) w w' := h.ke.trans r4 (fun i hi q => q.elim (fun q => (h.gr i q).elim .inl (fun q => by omega)) .inr)
      obtain ⟨mm', rfl⟩ : ∃ mm', mm = mm' + 1 := ⟨mm - 1, by omega⟩
      by_cases hov : n + 1 = x.n ∨ n + 1 > 200
      · have ho1 : (decide (n + 1 = x.n) || decide (n + 1 > 200)) = true := by simpa using hov
        rw [ho1] at r1 ⊢
        have el : rgI x m (mm' + 1) frm n l1 = turnL x m l1 := by unfold rgI; rw [hf]; simp only; rw [if_pos hov]
        have E := h.eq
        rw [el] at E
        exact .inl ⟨rfl, v', F', _, _, _, _, r1, E ▸ r2, gr', ke', .inl rfl⟩
      · have ho1 : (decide (n + 1 = x.n) || decide (n + 1 > 200)) = false := by simpa using hov
        rw [ho1] at r1 ⊢
        have el : rgI x m (mm' + 1) frm n l1 = rgI x m mm' (bhd e.1) (n + 1) (turnL x m l1) := by rw [rgI]; rw [hf]; simp only; rw [if_neg hov]
        have E := h.eq
        rw [el] at E
        refine .inr ⟨rfl, mm', by omega, by rw [bhd_size]; have := h.bd.k e a2; omega, n + 1, _, v', _, _, F', cur_next e.1 _, ⟨by omega, by omega, by omega, r1, r2, gr', ke', ?_, E⟩⟩
        exact bt.mono (by omega)
  exact iterS B e54 e67 201 x.key w ⟨by omega, 0, l, v, k0, q0, F, hc, ⟨by omega, by omega, by omega, hb, hst, fun j hj => .inl hj, Kept.refl _ _, by simpa using hbd, rfl⟩⟩ hs.f

end Go.Proofs.Ythjggbcppgbdoaa
