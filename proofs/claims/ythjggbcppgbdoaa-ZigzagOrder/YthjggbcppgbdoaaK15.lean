import Derived.Test.YthjggbcppgbdoaaK14
import Derived.ChangeKeysEq
namespace Go.Proofs.Ythjggbcppgbdoaa
open Go.RowKit

/-- A store that was made since w, and nothing that lay in w is changed. -/
structure Gz (w wi : World) (p : Nat) (V : List Pl) (m : Bool) (F : Nat → Prop) : Prop where
  zv : ZV wi p V m F
  fp : ∀ j, F j → w.heap.size ≤ j ∧ j < wi.heap.size
  bl : Below w.heap.size w wi

theorem Gz.below {w wi w' : World} {p : Nat} {V : List Pl} {m : Bool} {F : Nat → Prop} (h : Gz w wi p V m F) (hb : Below wi.heap.size wi w') : Gz w w' p V m F :=
  ⟨h.zv.below hb, fun j hj => ⟨(h.fp j hj).1, Nat.lt_of_lt_of_le (h.fp j hj).2 hb.size⟩, below_on h.bl hb⟩

theorem Gz.on {w wi w' : World} {p p' : Nat} {V V' : List Pl} {m m' : Bool} {F : Nat → Prop} (h : Gz w wi p V m F) (hz : ZV w' p' V' m' F) (hk : Kept F wi w') : Gz w w' p' V' m' F :=
  ⟨hz, fun j hj => ⟨(h.fp j hj).1, Nat.lt_of_lt_of_le (h.fp j hj).2 hk.size⟩, h.bl.trans (hk.below h.bl.size (fun k hk' e => by have := (h.fp k e).1; omega))⟩

theorem gput {w wi : World} {p : Nat} {V : List Pl} {m : Bool} {F : Nat → Prop} (h : Gz w wi p V m F) (key : ByteArray) (v : Int) (hl : V.length ≤ 500000) (hk : key.size ≤ 281474976710656) :
    Calls Try.prog 16 #[.pointer (some ⟨p, 0, none⟩), .string key, .int .i64 v] wi fun x w' => x = .returned (.tuple #[]) ∧ Gz w w' p (rputL key v V) m (grw F wi w') ∧ Kept F wi w' := by
  refine (vput p key v V m F wi h.zv hl hk).mono ?_
  rintro x w' ⟨rfl, hz, hk'⟩
  refine ⟨rfl, ⟨hz, fun j hj => ?_, h.bl.trans (hk'.below h.bl.size (fun k hk2 e => by have := (h.fp k e).1; omega))⟩, hk'⟩
  have := hk'.size
  have := h.bl.size
  rcases hj with h1 | ⟨h1, h2⟩
  · have := h.fp j h1; omega
  · omega

abbrev kA : ByteArray := ⟨#[97]⟩
abbrev kB : ByteArray := ⟨#[98]⟩
theorem kl_ab : kl kA kB = true := by
  unfold kl
  rw [Lib.toList_data, Lib.toList_data]
  decide
theorem kl_ea : kl ⟨#[]⟩ kA = true := by
  unfold kl
  rw [Lib.toList_data, Lib.toList_data]
  decide
theorem kl_eb : kl ⟨#[]⟩ kB = true := by
  unfold kl
  rw [Lib.toList_data, Lib.toList_data]
  decide

abbrev sa1 : Sd := ⟨0, 1, false, true, true, true⟩
abbrev sa2 : Sd := ⟨0, 2, false, true, true, true⟩
abbrev sa3 : Sd := ⟨0, 2, false, true, true, false⟩
abbrev sa4 : Sd := ⟨3, 2, true, true, false, false⟩
abbrev sb5 : Sd := ⟨0, 9, false, true, true, true⟩

theorem v1 : rputL kA 1 [] = [(kA, sa1)] := (put_new (V1 := []) (V2 := []) (by simp) (by simp)).1
theorem v2 : rputL kA 2 [(kA, sa1)] = [(kA, sa2)] := put_has (V1 := []) (V2 := []) (s := sa1) (by simp) (by simp)
theorem v3 : [(kA, sa2)].map (fun e : Pl => (e.1, e.2.mk')) = [(kA, sa3)] := rfl
theorem v4 : rputL kA 3 [(kA, sa3)] = [(kA, sa4)] := put_has (V1 := []) (V2 := []) (s := sa3) (by simp) (by simp)
theorem v5 : rputL kB 9 [(kA, sa4)] = [(kA, sa4), (kB, sb5)] := (put_new (V1 := [(kA, sa4)]) (V2 := []) (by intro e he; simp at he; subst he; exact kl_ab) (by simp)).1
theorem lA {s : Sd} : ∀ e ∈ [(kB, s)], kl kA e.1 = true := by intro e he; simp at he; subst he; exact kl_ab
theorem v6 : slotW kA [(kA, sa4), (kB, sb5)] = (sa4, true) := by
  obtain ⟨hr, hs⟩ := ri_has (key := kA) (s := sa4) (V1 := []) (V2 := [(kB, sb5)]) (by simp) lA
  unfold slotW
  have hr' : ri kA [(kA, sa4), (kB, sb5)] = 0 := hr
  have hs' : rs kA [(kA, sa4), (kB, sb5)] = true := hs
  rw [hr', hs']
  rfl
theorem v7 : rgetV kA [(kA, sa4), (kB, sb5)] = (3, true) := get_has (V1 := []) (V2 := [(kB, sb5)]) (s := sa4) (by simp) lA
theorem v8 : rdelL kA false [(kA, sa4), (kB, sb5)] = [(kB, sb5)] := (del_has (V1 := []) (V2 := [(kB, sb5)]) (s := sa4) (m := false) (by simp) lA rfl).trans rfl
theorem v9 : slotW kA [(kB, sb5)] = (⟨0, 0, false, false, false, false⟩, false) := by
  have hs : rs kA [(kB, sb5)] = false := (put_new (k := 0) (V1 := []) (V2 := [(kB, sb5)]) (by simp) lA).2
  unfold slotW
  cases [(kB, sb5)][ri kA [(kB, sb5)]]? with
  | none => rfl
  | some e => simp [hs]
theorem see_a : see true sa4 = (2, true) := rfl
theorem see_b : see true sb5 = (0, false) := rfl
theorem w1' : leastW true (bhd ⟨#[]⟩) ⟨#[]⟩ [(kA, sa4), (kB, sb5)] = (kA, 2, true) := by
  have e : fitP true (bhd ⟨#[]⟩) ⟨#[]⟩ (kA, sa4) = true := by
    unfold fitP
    rw [kl_behind, kl_ea, emp_eq rfl, see_a]
    rfl
  unfold leastW leastP
  rw [List.find?_cons, e]
  rfl
theorem w2' : leastW true (bhd kA) ⟨#[]⟩ [(kA, sa4), (kB, sb5)] = (⟨#[]⟩, 0, false) := by
  have e : fitP true (bhd kA) ⟨#[]⟩ (kA, sa4) = false := by
    unfold fitP
    rw [kl_behind, kl_irrefl]
    rfl
  have e2 : fitP true (bhd kA) ⟨#[]⟩ (kB, sb5) = false := by
    unfold fitP
    rw [see_b]
    simp
  unfold leastW leastP
  rw [List.find?_cons, e]
  simp only []
  rw [List.find?_cons, e2]
  rfl
theorem cat_ea : ((⟨#[]⟩ : ByteArray) ++ kA) = kA := by
  apply toList_inj
  rw [Lib.toList_data, Lib.toList_data]
  rfl

set_option maxRecDepth 100000 in
set_option maxHeartbeats 800000 in
theorem known33 (c1 c2 : Nat) (w : World) (h1 : Bx w c1 ⟨#[]⟩) (h2 : w.heap[c2]? = some (.cells #[.int .i64 0] 3 (0, 0))) :
    Calls Try.prog 33 #[.string kA, .int .i64 2, .pointer (some ⟨c1, 0, none⟩), .pointer (some ⟨c2, 0, none⟩)] w fun x w' => x = .returned (.bool true) ∧ Bx w' c1 kA ∧ w'.heap[c2]? = some (.cells #[.int .i64 2] 3 (0, 0)) ∧ Kept (fun j => j = c1 ∨ j = c2) w w' := by
  have d1 := cells1 h1
  have d2 := cells1 h2
  have f1 : ∀ j, w.frozen? ⟨c1, j, none⟩ = false := fun j => free_of_block h1
  have f2 : ∀ j, w.frozen? ⟨c2, j, none⟩ = false := fun j => free_of_block h2
  have ne : c1 ≠ c2 := by intro e; subst e; rw [h1] at h2; cases h2
  have hc := cat_ea
  have HH := hid (And.intro h1 h2)
  clear h1 h2
  go_enter Try.func33, Try.ntmps33
  go_wp2
  go_ret
  obtain ⟨h1, h2⟩ := HH.out
  refine ⟨rfl, ?_, ?_, ((Kept.refl _ w).setCell (p := ⟨c1, 0, none⟩) (fun _ => .inl rfl) _).setCell (p := ⟨c2, 0, none⟩) (fun _ => .inr rfl) _⟩
  · have := hp_set (set_block (i := 0) h1 (.string kA)) ne (.int .i64 2) (p := ⟨c2, 0, none⟩)
    first | exact this | simpa using this
  · exact set_block (i := 0) (hp_set h2 (fun e => ne e.symm) _) _

end Go.Proofs.Ythjggbcppgbdoaa

namespace Go.Proofs.Ythjggbcppgbdoaa
open Go.RowKit

theorem bhd_e : (bhd ⟨#[]⟩).size ≤ 281474976710656 := by rw [bhd_size]; decide
theorem bhd_a : (bhd kA).size ≤ 281474976710656 := by rw [bhd_size]; decide

theorem e57 : ∀ args w, (callFunc 57 args).run Try.prog w = .ok (.enter 57 args) w := enters_of Try.func57 (by kernel_rfl) rfl
theorem e54 : ∀ args w, (callFunc 54 args).run Try.prog w = .ok (.enter 54 args) w := enters_of Try.func54 (by kernel_rfl) rfl
theorem e33 : ∀ args w, (callFunc 33 args).run Try.prog w = .ok (.enter 33 args) w := enters_of Try.func33 (by kernel_rfl) rfl
theorem e18 : ∀ args w, (callFunc 18 args).run Try.prog w = .ok (.enter 18 args) w := enters_of Try.func18 (by kernel_rfl) rfl

/-- Behind the snapshot of known. -/
structure Kq (w : World) (c1 c2 : Nat) (W : World) : Prop where
  a : Bx W c1 kA
  b : W.heap[c2]? = some (.cells #[.int .i64 2] 3 (0, 0))
  k : Kept (fun j => j = c1 ∨ j = c2) w W

theorem snapK {w : World} {p : Nat} {F : Nat → Prop} {g1 g2 gp c1 c2 : Nat} (h : ZV w p [(kA, sa4), (kB, sb5)] true F) (hs : SnB w g1 g2 gp (some ⟨p, 0, none⟩) (bhd ⟨#[]⟩)) (h1 : Bx w c1 ⟨#[]⟩) (h2 : w.heap[c2]? = some (.cells #[.int .i64 0] 3 (0, 0))) (n1 : ¬ F c1) (n2 : ¬ F c2) :
    Calls Try.prog 75 #[.func (.func 33) #[] #[.pointer (some ⟨c1, 0, none⟩), .pointer (some ⟨c2, 0, none⟩)], .pointer (some ⟨g1, 0, none⟩), .pointer (some ⟨g2, 0, none⟩)] w fun x w' => x = .returned (.tuple #[]) ∧ Kq w c1 c2 w' := by
  have x1 : g2 ≠ c1 := by intro e; subst e; have := hs.s; rw [h1] at this; cases this
  have x2 : g2 ≠ c2 := by intro e; subst e; have := hs.s; rw [h2] at this; cases this
  have y1 : gp ≠ c1 := by intro e; subst e; have := hs.p; rw [h1] at this; cases this
  have y2 : gp ≠ c2 := by intro e; subst e; have := hs.p; rw [h2] at this; cases this
  have HB : BodyS 57 #[.pointer (some ⟨gp, 0, none⟩)] 33 #[.pointer (some ⟨c1, 0, none⟩), .pointer (some ⟨c2, 0, none⟩)] g2
      (fun m frm W => (m = 2 ∧ frm = bhd ⟨#[]⟩ ∧ Below w.heap.size w W) ∨ (m = 1 ∧ frm = bhd kA ∧ Kq w c1 c2 W))
      (fun m k v W => m = 2 ∧ k = kA ∧ v = 2 ∧ Below w.heap.size w W) (fun W => Kq w c1 c2 W) := by
    refine ⟨?_, ?_, ?_, ?_⟩
    · rintro m frm W (⟨-, -, hb⟩ | ⟨-, -, hq⟩)
      · exact hp_below hs.s hb (hp_lt hs.s)
      · exact hp_kept hs.s hq.k (fun e => e.elim x1 x2)
    · rintro m frm W (⟨rfl, rfl, hb⟩ | ⟨rfl, rfl, hq⟩)
      · have hz := h.below hb
        have L := vleast58 p (bhd ⟨#[]⟩) ⟨#[]⟩ _ true F W hz bhd_e (by decide)
        rw [w1'] at L
        refine (find57 (some ⟨p, 0, none⟩) (bhd ⟨#[]⟩) gp kA 2 true W (hp_below hs.p hb (hp_lt hs.p)) (vmarked p _ true F W hz) L).mono ?_
        rintro x w' ⟨rfl, hb'⟩
        exact .inr ⟨kA, 2, rfl, rfl, rfl, rfl, below_on hb hb'⟩
      · have hz : ZV W p [(kA, sa4), (kB, sb5)] true F := h.kept hq.k (fun j hj e => by
          rcases e with rfl | rfl
          · exact n1 hj
          · exact n2 hj)
        have L := vleast58 p (bhd kA) ⟨#[]⟩ _ true F W hz bhd_a (by decide)
        rw [w2'] at L
        refine (find57 (some ⟨p, 0, none⟩) (bhd kA) gp ⟨#[]⟩ 0 false W (hp_kept hs.p hq.k (fun e => e.elim y1 y2)) (vmarked p _ true F W hz) L).mono ?_
        rintro x w' ⟨rfl, hb'⟩
        exact .inl ⟨⟨#[]⟩, 0, rfl, hp_below hq.a hb' (hp_lt hq.a), hp_below hq.b hb' (hp_lt hq.b), hq.k.trans (Kept.ofBelow hb') (fun _ _ e => e.elim)⟩
    · rintro m k v W ⟨-, rfl, -⟩
      decide
    · rintro m k v W ⟨rfl, rfl, rfl, hb⟩
      refine (known33 c1 c2 W (hp_below h1 hb (hp_lt h1)) (hp_below h2 hb (hp_lt h2))).mono ?_
      rintro x w' ⟨rfl, q1, q2, q3⟩
      exact .inr ⟨rfl, 1, by decide, .inr ⟨rfl, rfl, q1, q2, ((Kept.ofBelow hb).mono (fun _ _ e => e.elim)).trans q3 (fun _ _ e => e)⟩⟩
  exact iterS HB e57 e33 2 (bhd ⟨#[]⟩) w (.inl ⟨rfl, rfl, Below.refl _ _⟩) hs.f

end Go.Proofs.Ythjggbcppgbdoaa

namespace Go.Proofs.Ythjggbcppgbdoaa
open Go.RowKit

theorem ci3 : Try.prog.cellsOf 3 = 1 := by kernel_rfl
theorem ci4 : Try.prog.cellsOf 4 = 1 := by kernel_rfl
theorem inf3 : ∃ i, Try.prog.info? 3 = some i := by
  cases h : Try.prog.info? 3 with
  | none => exact absurd h (by have : (Try.prog.info? 3).isSome = true := by kernel_rfl
                               intro e; rw [e] at this; cases this)
  | some i => exact ⟨i, rfl⟩
theorem inf4 : ∃ i, Try.prog.info? 4 = some i := by
  cases h : Try.prog.info? 4 with
  | none => exact absurd h (by have : (Try.prog.info? 4).isSome = true := by kernel_rfl
                               intro e; rw [e] at this; cases this)
  | some i => exact ⟨i, rfl⟩

theorem eq53 (d : Nat) (a b c e : Int) (w : World) : (Op.equalIn (d + 2) 53 (.agg #[.int .i64 a, .int .i64 b]) (.agg #[.int .i64 c, .int .i64 e])).run Try.prog w = .ok (a == c && b == e) w := by
  obtain ⟨i, hi⟩ := inf3
  rw [run_equalIn_array w (d + 1) _ _ Try.underlying53 hi, ci3]
  have h3 : ∀ (x y : Int) (w : World), (Op.equalIn (d + 1) 3 (.int .i64 x) (.int .i64 y)).run Try.prog w = .ok (x == y) w := fun x y w => by
    simp [Op.equalIn, run_underlying Try.underlying3]
  have hr : List.range 2 = [0, 1] := rfl
  rw [hr]
  simp [Op.eqItems, part, go_sem, h3]
  by_cases h1 : a = c <;> by_cases h2 : b = e <;> simp [h1, h2]

theorem eq54 (d : Nat) (a b c e : Bool) (w : World) : (Op.equalIn (d + 2) 54 (.agg #[.bool a, .bool b]) (.agg #[.bool c, .bool e])).run Try.prog w = .ok (a == c && b == e) w := by
  obtain ⟨i, hi⟩ := inf4
  rw [run_equalIn_array w (d + 1) _ _ Try.underlying54 hi, ci4]
  have h3 : ∀ (x y : Bool) (w : World), (Op.equalIn (d + 1) 4 (.bool x) (.bool y)).run Try.prog w = .ok (x == y) w := fun x y w => by
    simp [Op.equalIn, run_underlying Try.underlying4]
  have hr : List.range 2 = [0, 1] := rfl
  rw [hr]
  simp [Op.eqItems, part, go_sem, h3]
  by_cases h1 : a = c <;> by_cases h2 : b = e <;> simp [h1, h2]

theorem q53 : ∀ (a b c e : Int) (W : World), (Op.equalIn 9999 53 (.agg #[.int .i64 a, .int .i64 b]) (.agg #[.int .i64 c, .int .i64 e])).run Try.prog W = .ok (a == c && b == e) W := fun a b c e W => eq53 9997 a b c e W
theorem q54 : ∀ (a b c e : Bool) (W : World), (Op.equalIn 9999 54 (.agg #[.bool a, .bool b]) (.agg #[.bool c, .bool e])).run Try.prog W = .ok (a == c && b == e) W := fun a b c e W => eq54 9997 a b c e W

end Go.Proofs.Ythjggbcppgbdoaa

namespace Go.Proofs.Ythjggbcppgbdoaa
open Go.RowKit

theorem gmark {w wi : World} {p : Nat} {V : List Pl} {F : Nat → Prop} (h : Gz w wi p V false F) :
    Calls Try.prog 26 #[.pointer (some ⟨p, 0, none⟩)] wi fun x w' => x = .returned (.int .i64 0) ∧ Gz w w' p (V.map (fun e => (e.1, e.2.mk'))) true F :=
  (vmark p V F wi h.zv).mono (by rintro x w' ⟨rfl, hz, hk⟩; exact ⟨rfl, h.on hz hk⟩)

abbrev xSl : Obj := .cells #[.int .i64 3, .int .i64 2, .bool true, .bool true, .int .i64 0, .int .i64 0] 56

/-- known's store and its boxes. -/
structure K9 (w W : World) (p bx c1 c2 : Nat) (k : ByteArray) (n : Int) (V : List Pl) (m : Bool) (F : Nat → Prop) : Prop where
  g : Gz w W p V m F
  x : W.heap[bx]? = some xSl
  a : Bx W c1 k
  b : W.heap[c2]? = some (.cells #[.int .i64 n] 3 (0, 0))
  n0 : ¬ F bx
  n1 : ¬ F c1
  n2 : ¬ F c2
  l : w.heap.size ≤ c1 ∧ w.heap.size ≤ c2

theorem K9.below {w W W' : World} {p bx c1 c2 : Nat} {k : ByteArray} {n : Int} {V : List Pl} {m : Bool} {F : Nat → Prop} (h : K9 w W p bx c1 c2 k n V m F) (hb : Below W.heap.size W W') : K9 w W' p bx c1 c2 k n V m F :=
  ⟨h.g.below hb, hp_below h.x hb (hp_lt h.x), hp_below h.a hb (hp_lt h.a), hp_below h.b hb (hp_lt h.b), h.n0, h.n1, h.n2, h.l⟩
theorem K9.on {w W W' : World} {p bx c1 c2 : Nat} {k : ByteArray} {n : Int} {V V' : List Pl} {m m' : Bool} {F : Nat → Prop} (h : K9 w W p bx c1 c2 k n V m F) (hz : ZV W' p V' m' F) (hk : Kept F W W') : K9 w W' p bx c1 c2 k n V' m' F :=
  ⟨h.g.on hz hk, hp_kept h.x hk h.n0, hp_kept h.a hk h.n1, hp_kept h.b hk h.n2, h.n0, h.n1, h.n2, h.l⟩

abbrev V5 : List Pl := [(kA, sa4), (kB, sb5)]

theorem k9_start {w w7 : World} {p : Nat} {F : Nat → Prop} (h : Gz w w7 p V5 true F) : K9 w (((w7.alloc xSl).alloc (.cells #[.string ⟨#[]⟩] 9)).alloc (.cells #[.int .i64 0] 3)) p w7.heap.size (w7.heap.size + 1) (w7.heap.size + 1 + 1) ⟨#[]⟩ 0 V5 true F := by
  obtain ⟨h1, h2, h3, hb⟩ := three w7 xSl (.cells #[.string ⟨#[]⟩] 9) (.cells #[.int .i64 0] 3)
  have hf : ∀ j, w7.heap.size ≤ j → ¬ F j := fun j hj e => by have := (h.fp j e).2; omega
  have := h.bl.size
  exact ⟨h.below hb, h1, h2, h3, hf _ (by omega), hf _ (by omega), hf _ (by omega), by omega, by omega⟩

set_option maxRecDepth 100000 in
set_option maxHeartbeats 4000000 in
theorem known_any (w : World) : Calls Try.prog 10 #[] w fun x w' => x = .returned (.bool true) ∧ Below w.heap.size w w' := by
  have hmf : ∀ (fn : Fn) (first cap : Array Value) (w : World), (Instr.makeFunc fn first cap).run Try.prog w = .ok (.func fn first cap) w := fun _ _ _ _ => rfl
  have h53 := q53
  have h54 := q54
  have NW := hid (show Calls Try.prog 11 #[] w fun x w' => x = .returned (.pointer (some ⟨w.heap.size, 0, none⟩)) ∧ Hid (Gz w w' w.heap.size [] false (fun j => j = w.heap.size)) from (vnew w).mono (by
    rintro x w' ⟨rfl, hz, hb, hs⟩
    exact ⟨rfl, hid ⟨hz, fun j hj => by subst hj; omega, hb⟩⟩))
  generalize hp : w.heap.size = p at NW
  have HP := hid hp
  clear hp
  have P1 := hid (show ∀ wi F, Gz w wi p [] false F → Calls Try.prog 16 #[.pointer (some ⟨p, 0, none⟩), .string kA, .int .i64 1] wi fun x w' => x = .returned (.tuple #[]) ∧ Hid (∃ F, Gz w w' p [(kA, sa1)] false F) from fun wi F h => (gput h kA 1 (by decide) (by decide)).mono (by
    rintro x w' ⟨rfl, hz, -⟩
    exact ⟨rfl, hid ⟨_, v1 ▸ hz⟩⟩))
  have P2 := hid (show ∀ wi, (∃ F, Gz w wi p [(kA, sa1)] false F) → Calls Try.prog 16 #[.pointer (some ⟨p, 0, none⟩), .string kA, .int .i64 2] wi fun x w' => x = .returned (.tuple #[]) ∧ Hid (∃ F, Gz w w' p [(kA, sa2)] false F) from fun wi ⟨F, h⟩ => (gput h kA 2 (by decide) (by decide)).mono (by
    rintro x w' ⟨rfl, hz, -⟩
    exact ⟨rfl, hid ⟨_, v2 ▸ hz⟩⟩))
  have P3 := hid (show ∀ wi, (∃ F, Gz w wi p [(kA, sa2)] false F) → Calls Try.prog 26 #[.pointer (some ⟨p, 0, none⟩)] wi fun x w' => x = .returned (.int .i64 0) ∧ Hid (∃ F, Gz w w' p [(kA, sa3)] true F) from fun wi ⟨F, h⟩ => (gmark h).mono (by
    rintro x w' ⟨rfl, hz⟩
    exact ⟨rfl, hid ⟨_, hz⟩⟩))
  have P4 := hid (show ∀ wi, (∃ F, Gz w wi p [(kA, sa3)] true F) → Calls Try.prog 16 #[.pointer (some ⟨p, 0, none⟩), .string kA, .int .i64 3] wi fun x w' => x = .returned (.tuple #[]) ∧ Hid (∃ F, Gz w w' p [(kA, sa4)] true F) from fun wi ⟨F, h⟩ => (gput h kA 3 (by decide) (by decide)).mono (by
    rintro x w' ⟨rfl, hz, -⟩
    exact ⟨rfl, hid ⟨_, v4 ▸ hz⟩⟩))
  have P5 := hid (show ∀ wi, (∃ F, Gz w wi p [(kA, sa4)] true F) → Calls Try.prog 16 #[.pointer (some ⟨p, 0, none⟩), .string kB, .int .i64 9] wi fun x w' => x = .returned (.tuple #[]) ∧ Hid (∃ F, Gz w w' p [(kA, sa4), (kB, sb5)] true F) from fun wi ⟨F, h⟩ => (gput h kB 9 (by decide) (by decide)).mono (by
    rintro x w' ⟨rfl, hz, -⟩
    exact ⟨rfl, hid ⟨_, v5 ▸ hz⟩⟩))
  have P6 := hid (show ∀ wi, (∃ F, Gz w wi p [(kA, sa4), (kB, sb5)] true F) → Calls Try.prog 23 #[.pointer (some ⟨p, 0, none⟩), .string kA] wi fun x w' => x = .returned (.tuple #[.agg #[.int .i64 3, .int .i64 2, .bool true, .bool true, .int .i64 0, .int .i64 0], .bool true]) ∧ Hid (∃ F, Gz w w' p [(kA, sa4), (kB, sb5)] true F) from fun wi ⟨F, h⟩ => (vslot p kA _ true F wi h.zv).mono (by
    rintro x w' ⟨rfl, hb⟩
    rw [v6]
    exact ⟨rfl, hid ⟨F, h.below hb⟩⟩))
  have P7 := hid (show ∀ w7, (∃ F, Gz w w7 p V5 true F) → Calls Try.prog 20 #[.pointer (some ⟨p, 0, none⟩), .string ⟨#[]⟩] (((w7.alloc xSl).alloc (.cells #[.string ⟨#[]⟩] 9)).alloc (.cells #[.int .i64 0] 3)) fun x w' => ∃ g1 g2, x = .returned (itS g1 g2) ∧ Hid (∃ F gp, K9 w w' p w7.heap.size (w7.heap.size + 1) (w7.heap.size + 1 + 1) ⟨#[]⟩ 0 V5 true F ∧ SnB w' g1 g2 gp (some ⟨p, 0, none⟩) (bhd ⟨#[]⟩)) from fun w7 ⟨F, h⟩ => (ssnap_any (some ⟨p, 0, none⟩) ⟨#[]⟩ _ (by decide)).mono (by
    rintro x w' ⟨g1, g2, gp, rfl, hs, hb, -⟩
    exact ⟨g1, g2, rfl, hid ⟨F, gp, (k9_start h).below hb, hs⟩⟩))
  have P8 := hid (show ∀ W bx c1 c2 g1 g2, (∃ F gp, K9 w W p bx c1 c2 ⟨#[]⟩ 0 V5 true F ∧ SnB W g1 g2 gp (some ⟨p, 0, none⟩) (bhd ⟨#[]⟩)) → Calls Try.prog 75 #[.func (.func 33) #[] #[.pointer (some ⟨c1, 0, none⟩), .pointer (some ⟨c2, 0, none⟩)], .pointer (some ⟨g1, 0, none⟩), .pointer (some ⟨g2, 0, none⟩)] W fun x w' => x = .returned (.tuple #[]) ∧ Hid (∃ F, K9 w w' p bx c1 c2 kA 2 V5 true F) from fun W bx c1 c2 g1 g2 ⟨F, gp, h, hs⟩ => (snapK h.g.zv hs h.a h.b h.n1 h.n2).mono (by
    rintro x w' ⟨rfl, hq⟩
    refine ⟨rfl, hid ⟨F, ⟨h.g.zv.kept hq.k (fun j hj e => ?_), fun j hj => ⟨(h.g.fp j hj).1, Nat.lt_of_lt_of_le (h.g.fp j hj).2 hq.k.size⟩, h.g.bl.trans (hq.k.below h.g.bl.size (fun k hk e => ?_))⟩, ?_, hq.a, hq.b, h.n0, h.n1, h.n2, h.l⟩⟩
    · rcases e with rfl | rfl
      · exact h.n1 hj
      · exact h.n2 hj
    · have := h.l
      rcases e with rfl | rfl <;> omega
    · refine hp_kept h.x hq.k (fun e => ?_)
      have hx := h.x
      rcases e with e | e
      · rw [e, h.a] at hx; cases hx
      · rw [e, h.b] at hx; cases hx))
  have P9 := hid (show ∀ W bx c1 c2, (∃ F, K9 w W p bx c1 c2 kA 2 V5 true F) → Calls Try.prog 21 #[.pointer (some ⟨p, 0, none⟩), .string kA] W fun x w' => x = .returned (.tuple #[.int .i64 3, .bool true]) ∧ Hid (∃ F, K9 w w' p bx c1 c2 kA 2 V5 true F) from fun W bx c1 c2 ⟨F, h⟩ => (vget p kA _ true F W h.g.zv).mono (by
    rintro x w' ⟨rfl, hb⟩
    rw [v7]
    exact ⟨rfl, hid ⟨F, h.below hb⟩⟩))
  have Pa := hid (show ∀ W bx c1 c2, (∃ F, K9 w W p bx c1 c2 kA 2 V5 true F) → Calls Try.prog 26 #[.pointer (some ⟨p, 0, none⟩)] W fun x w' => x = .returned (.int .i64 18) ∧ w' = W from fun W bx c1 c2 ⟨F, h⟩ => vbusy p _ F W h.g.zv)
  have Pb := hid (show ∀ W bx c1 c2, (∃ F, K9 w W p bx c1 c2 kA 2 V5 true F) → Calls Try.prog 27 #[.pointer (some ⟨p, 0, none⟩)] W fun x w' => x = .returned (.int .i64 0) ∧ Hid (∃ F, K9 w w' p bx c1 c2 kA 2 V5 false F) from fun W bx c1 c2 ⟨F, h⟩ => (vdone_calm p _ F W h.g.zv (by intro e he; simp at he; rcases he with rfl | rfl <;> rfl)).mono (by
    rintro x w' ⟨rfl, hz, hk⟩
    exact ⟨rfl, hid ⟨F, h.on hz hk⟩⟩))
  have Pc := hid (show ∀ W bx c1 c2, (∃ F, K9 w W p bx c1 c2 kA 2 V5 false F) → Calls Try.prog 17 #[.pointer (some ⟨p, 0, none⟩), .string kA] W fun x w' => x = .returned (.tuple #[]) ∧ Hid (∃ F, K9 w w' p bx c1 c2 kA 2 [(kB, sb5)] false F) from fun W bx c1 c2 ⟨F, h⟩ => (vdel p kA _ false F W h.g.zv (by decide)).mono (by
    rintro x w' ⟨rfl, hz, hk⟩
    rw [v8] at hz
    exact ⟨rfl, hid ⟨F, h.on hz hk⟩⟩))
  have Pd := hid (show ∀ W bx c1 c2, (∃ F, K9 w W p bx c1 c2 kA 2 [(kB, sb5)] false F) → Calls Try.prog 23 #[.pointer (some ⟨p, 0, none⟩), .string kA] W fun x w' => x = .returned (.tuple #[zAg, .bool false]) ∧ Hid (∃ F, K9 w (w'.alloc zSl) p bx c1 c2 kA 2 [(kB, sb5)] false F) from fun W bx c1 c2 ⟨F, h⟩ => (vslot p kA _ false F W h.g.zv).mono (by
    rintro x w' ⟨rfl, hb⟩
    rw [v9]
    exact ⟨rfl, hid ⟨F, h.below (below_on hb (below_new w' _))⟩⟩))
  have Pe := hid (show ∀ W bx c1 c2, (∃ F, K9 w W p bx c1 c2 kA 2 [(kB, sb5)] false F) → Calls Try.prog 24 #[.pointer (some ⟨p, 0, none⟩)] W fun x w' => x = .returned (.int .i64 1) ∧ w' = W from fun W bx c1 c2 ⟨F, h⟩ => vlen p _ false F W h.g.zv)
  go_enter Try.func10, Try.ntmps10
  go_wp2_with (first
    | (go_at_call 11
       refine NW.out.mono ?_
       rintro e w1 ⟨rfl, G1⟩
       clear NW)
    | (go_at_call 16
       refine (P1.out w1 _ G1.out).mono ?_
       rintro e w2 ⟨rfl, G2⟩
       clear P1 G1)
    | (go_at_call 16
       refine (P2.out w2 G2.out).mono ?_
       rintro e w3 ⟨rfl, G3⟩
       clear P2 G2)
    | (go_at_call 26
       refine (P3.out w3 G3.out).mono ?_
       rintro e w4 ⟨rfl, G4⟩
       clear P3 G3)
    | (go_at_call 16
       refine (P4.out w4 G4.out).mono ?_
       rintro e w5 ⟨rfl, G5⟩
       clear P4 G4)
    | (go_at_call 16
       refine (P5.out w5 G5.out).mono ?_
       rintro e w6 ⟨rfl, G6⟩
       clear P5 G5)
    | (go_at_call 23
       refine (P6.out w6 G6.out).mono ?_
       rintro e w7 ⟨rfl, G7⟩
       clear P6 G6)
    | (go_at_call 20
       refine (P7.out w7 G7.out).mono ?_
       rintro e w8 ⟨g1, g2, rfl, G8⟩
       clear P7 G7)
    | (go_at_call 75
       refine (P8.out w8 w7.heap.size _ _ g1 g2 G8.out).mono ?_
       rintro e w9 ⟨rfl, G9⟩
       clear P8 G8)
    | (go_at_call 21
       refine (P9.out w9 _ _ _ G9.out).mono ?_
       rintro e w10 ⟨rfl, G10⟩
       clear P9 G9)
    | (go_at_call 26
       refine (Pa.out w10 _ _ _ G10.out).mono ?_
       rintro e w11 ⟨rfl, e11⟩
       rw [e11]
       clear Pa e11 w11)
    | (go_at_call 27
       refine (Pb.out w10 _ _ _ G10.out).mono ?_
       rintro e w12 ⟨rfl, G12⟩
       clear Pb G10)
    | (go_at_call 17
       refine (Pc.out w12 _ _ _ G12.out).mono ?_
       rintro e w13 ⟨rfl, G13⟩
       clear Pc G12)
    | (go_at_call 23
       refine (Pd.out w13 _ _ _ G13.out).mono ?_
       rintro e w14 ⟨rfl, G14⟩
       obtain ⟨x0, x1, x2, x3, x4, x5⟩ : _ ∧ _ ∧ _ ∧ _ ∧ _ ∧ _ := by
         obtain ⟨F, h⟩ := G14.out
         exact cells6 h.x
       have xa : (w14.alloc zSl).cell? ⟨w7.heap.size + 1, 0, none⟩ = some (.string kA) := by
         obtain ⟨F, h⟩ := G14.out
         exact cells1 h.a
       have xb : (w14.alloc zSl).cell? ⟨w7.heap.size + 1 + 1, 0, none⟩ = some (.int .i64 2) := by
         obtain ⟨F, h⟩ := G14.out
         exact cells1 h.b
       clear Pd G13)
    | (go_at_call 24
       refine (Pe.out _ _ _ _ G14.out).mono ?_
       rintro e w15 ⟨rfl, e15⟩
       rw [e15]
       clear e15 w15))
  go_ret
  obtain ⟨F, h⟩ := G14.out
  have hp := HP.out
  have hb := h.g.bl
  rw [hp] at hb
  exact ⟨rfl, hb⟩

end Go.Proofs.Ythjggbcppgbdoaa

namespace Go.Proofs.Ythjggbcppgbdoaa
open Go.RowKit

set_option maxRecDepth 100000 in
theorem znil_del (key : ByteArray) (w : World) : Calls Try.prog 17 #[.pointer none, .string key] w fun x w' => x = .returned (.tuple #[]) ∧ Below w.heap.size w w' := by
  have AT := hid (sat_any none key .nil w none false (.inl ⟨rfl, rfl⟩) rfl)
  go_enter Try.func17, Try.ntmps17
  go_wp2_with (
    go_at_call 47
    refine AT.out.mono ?_
    rintro e w1 ⟨rfl, hb⟩
    have HB := hid hb
    clear hb)
  refine bodyPost_ret (results_none rfl _ _ _) rfl ?_
  exact ⟨rfl, HB.out⟩

set_option maxRecDepth 100000 in
theorem znil_get (key : ByteArray) (w : World) : Calls Try.prog 21 #[.pointer none, .string key] w fun x w' => x = .returned (.tuple #[.int .i64 0, .bool false]) ∧ Below w.heap.size w w' := by
  have AT := hid (sat_any none key .nil w none false (.inl ⟨rfl, rfl⟩) rfl)
  go_enter Try.func21, Try.ntmps21
  go_wp2_with (
    go_at_call 47
    refine AT.out.mono ?_
    rintro e w1 ⟨rfl, hb⟩
    have HB := hid hb
    clear hb)
  go_ret2
  exact ⟨rfl, below_on HB.out (below_new _ _)⟩

/-- A loop over no store's Range. -/
theorem nil_range {w : World} {g1 g2 gp ge : Nat} {frm to : ByteArray} (Y : Nat) (caps : Array Value) (eY : ∀ args w, (callFunc Y args).run Try.prog w = .ok (.enter Y args) w) (h : RgB w g1 g2 gp ge none frm to) :
    Calls Try.prog 75 #[.func (.func Y) #[] caps, .pointer (some ⟨g1, 0, none⟩), .pointer (some ⟨g2, 0, none⟩)] w fun x w' => x = .returned (.tuple #[]) ∧ Below w.heap.size w w' := by
  have HB : BodyS 54 #[.pointer (some ⟨gp, 0, none⟩), .pointer (some ⟨ge, 0, none⟩)] Y caps g2 (fun _ _ W => Below w.heap.size w W) (fun _ _ _ _ => False) (fun W => Below w.heap.size w W) := by
    refine ⟨fun hb => hp_below h.s hb (hp_lt h.s), ?_, fun h => h.elim, fun h => h.elim⟩
    intro m fr W hb
    refine (find54 none fr to gp ge ⟨#[]⟩ 0 false W (hp_below h.p hb (hp_lt h.p)) (hp_below h.e hb (hp_lt h.e)) (least_no fr to 49 W)).mono ?_
    rintro x w' ⟨rfl, hb'⟩
    exact .inl ⟨_, _, rfl, below_on hb hb'⟩
  exact iterS HB e54 eY 0 frm w (Below.refl _ _) h.f

/-- A loop over no store's Snapshot. -/
theorem nil_snap {w : World} {g1 g2 gp : Nat} {first : ByteArray} (Y : Nat) (caps : Array Value) (eY : ∀ args w, (callFunc Y args).run Try.prog w = .ok (.enter Y args) w) (h : SnB w g1 g2 gp none first) :
    Calls Try.prog 75 #[.func (.func Y) #[] caps, .pointer (some ⟨g1, 0, none⟩), .pointer (some ⟨g2, 0, none⟩)] w fun x w' => x = .returned (.tuple #[]) ∧ Below w.heap.size w w' := by
  have HB : BodyS 57 #[.pointer (some ⟨gp, 0, none⟩)] Y caps g2 (fun _ _ W => Below w.heap.size w W) (fun _ _ _ _ => False) (fun W => Below w.heap.size w W) := by
    refine ⟨fun hb => hp_below h.s hb (hp_lt h.s), ?_, fun h => h.elim, fun h => h.elim⟩
    intro m fr W hb
    refine (find57_no none fr gp W (hp_below h.p hb (hp_lt h.p)) (znil_marked W)).mono ?_
    rintro x w' ⟨rfl, hb'⟩
    exact .inl ⟨_, _, rfl, below_on hb hb'⟩
  exact iterS HB e57 eY 0 first w (Below.refl _ _) h.f

set_option maxRecDepth 100000 in
set_option maxHeartbeats 4000000 in
theorem nothing_any (key to : ByteArray) (v : Int) (w : World) (h1 : key.size ≤ 281474976710000) (h2 : to.size ≤ 281474976710000) :
    Calls Try.prog 5 #[.string key, .string to, .int .i64 v] w fun x w' => x = .returned (.bool true) ∧ Below w.heap.size w w' := by
  have hmf : ∀ (fn : Fn) (first cap : Array Value) (w : World), (Instr.makeFunc fn first cap).run Try.prog w = .ok (.func fn first cap) w := fun _ _ _ _ => rfl
  have h53 := q53
  have h54 := q54
  have P1 := hid (fun W => znil_put key v W)
  have P2 := hid (fun W => znil_del key W)
  have P3 := hid (show ∀ W, Calls Try.prog 19 #[.pointer none, .string key, .string to] W fun x w' => ∃ g1 g2, x = .returned (itS g1 g2) ∧ Hid (Below W.heap.size W w' ∧ ∃ gp ge, RgB w' g1 g2 gp ge none key to) from fun W => (srange_any none key to W (by omega) (by omega)).mono (by
    rintro x w' ⟨g1, g2, gp, ge, rfl, hr, hb, -⟩
    exact ⟨g1, g2, rfl, hid ⟨hb, gp, ge, hr⟩⟩))
  have P4 := hid (show ∀ W c g1 g2, (∃ gp ge, RgB W g1 g2 gp ge none key to) → Calls Try.prog 75 #[.func (.func 18) #[] #[.pointer (some ⟨c, 0, none⟩)], .pointer (some ⟨g1, 0, none⟩), .pointer (some ⟨g2, 0, none⟩)] W fun x w' => x = .returned (.tuple #[]) ∧ Below W.heap.size W w' from fun W c g1 g2 ⟨gp, ge, h⟩ => nil_range 18 _ e18 h)
  have P5 := hid (show ∀ W, Calls Try.prog 20 #[.pointer none, .string key] W fun x w' => ∃ g1 g2, x = .returned (itS g1 g2) ∧ Hid (Below W.heap.size W w' ∧ ∃ gp, SnB w' g1 g2 gp none (bhd key)) from fun W => (ssnap_any none key W h1).mono (by
    rintro x w' ⟨g1, g2, gp, rfl, hr, hb, -⟩
    exact ⟨g1, g2, rfl, hid ⟨hb, gp, hr⟩⟩))
  have P6 := hid (show ∀ W c g1 g2, (∃ gp, SnB W g1 g2 gp none (bhd key)) → Calls Try.prog 75 #[.func (.func 18) #[] #[.pointer (some ⟨c, 0, none⟩)], .pointer (some ⟨g1, 0, none⟩), .pointer (some ⟨g2, 0, none⟩)] W fun x w' => x = .returned (.tuple #[]) ∧ Below W.heap.size W w' from fun W c g1 g2 ⟨gp, h⟩ => nil_snap 18 _ e18 h)
  have P7 := hid (fun W => znil_get key W)
  have P8 := hid (fun W => snext_any none key ⟨#[]⟩ 0 false W h1 (least_no (bhd key) ⟨#[]⟩ 49 W))
  have P9 := hid (fun W => sslot_no none key .nil W (.inl ⟨rfl, rfl⟩) rfl)
  have KN := hid known_any
  clear h1 h2
  go_enter Try.func5, Try.ntmps5
  go_wp2_with (first
    | (go_at_call 16
       refine (P1.out w).mono ?_
       rintro e w1 ⟨rfl, e1⟩
       rw [e1]
       clear e1 w1)
    | (go_at_call 17
       refine (P2.out w).mono ?_
       rintro e w2 ⟨rfl, hb⟩
       have B2 := hid hb
       clear hb)
    | (go_at_call 19
       refine (P3.out _).mono ?_
       rintro e w3 ⟨g1, g2, rfl, N3⟩
       have c3 := cells1 (hp_below (hp_new w2 (.cells #[.int .i64 0] 3)) N3.out.1 (by simp))
       have B3 := hid (below_on (below_on B2.out (below_new w2 _)) N3.out.1)
       have Q3 := hid (P4.out w3 w2.heap.size g1 g2 N3.out.2)
       have L3 := hid (show w2.heap.size < w3.heap.size from by have := N3.out.1.size; simp at this; omega)
       clear N3 B2)
    | (go_at_call 75
       refine Q3.out.mono ?_
       rintro e w4 ⟨rfl, hb⟩
       have c4 := (hb.cell (p := ⟨w2.heap.size, 0, none⟩) L3.out).trans c3
       have L4 := hid (Nat.lt_of_lt_of_le L3.out hb.size)
       have B4 := hid (below_on B3.out hb)
       clear hb Q3 c3 B3 L3)
    | (go_at_call 20
       refine (P5.out _).mono ?_
       rintro e w5 ⟨g3, g4, rfl, N5⟩
       have c5 := (N5.out.1.cell (p := ⟨w2.heap.size, 0, none⟩) L4.out).trans c4
       have L5 := hid (Nat.lt_of_lt_of_le L4.out N5.out.1.size)
       have B5 := hid (below_on B4.out N5.out.1)
       have Q5 := hid (P6.out w5 w2.heap.size g3 g4 N5.out.2)
       clear N5 B4 c4 L4)
    | (go_at_call 75
       refine Q5.out.mono ?_
       rintro e w6 ⟨rfl, hb⟩
       have c6 := (hb.cell (p := ⟨w2.heap.size, 0, none⟩) L5.out).trans c5
       have L6 := hid (Nat.lt_of_lt_of_le L5.out hb.size)
       have B6 := hid (below_on B5.out hb)
       clear hb Q5 c5 B5 L5)
    | (go_at_call 21
       refine (P7.out _).mono ?_
       rintro e w7 ⟨rfl, hb⟩
       have c7 := (hb.cell (p := ⟨w2.heap.size, 0, none⟩) L6.out).trans c6
       have L7 := hid (Nat.lt_of_lt_of_le L6.out hb.size)
       have B7 := hid (below_on B6.out hb)
       clear hb c6 B6 L6)
    | (go_at_call 22
       refine (P8.out _).mono ?_
       rintro e w8 ⟨rfl, hb⟩
       have c8 := (hb.cell (p := ⟨w2.heap.size, 0, none⟩) L7.out).trans c7
       have L8 := hid (Nat.lt_of_lt_of_le L7.out hb.size)
       have B8 := hid (below_on B7.out hb)
       clear hb c7 B7 L7)
    | (go_at_call 23
       refine (P9.out _).mono ?_
       rintro e w9 ⟨rfl, hb⟩
       have hb' := below_on hb (below_new w9 zSl)
       have c9 := (hb'.cell (p := ⟨w2.heap.size, 0, none⟩) L8.out).trans c8
       obtain ⟨x0, x1, x2, x3, x4, x5⟩ := cells6 (hp_new w9 zSl)
       have B9 := hid (below_on B8.out hb')
       clear hb hb' c8 B8 L8)
    | (go_at_call 24
       refine (znil_len _).mono ?_
       rintro e wa ⟨rfl, ea⟩
       rw [ea]
       clear ea wa)
    | (go_at_call 25
       refine (znil_marked _).mono ?_
       rintro e wa ⟨rfl, ea⟩
       rw [ea]
       clear ea wa)
    | (go_at_call 26
       refine (znil_mark _).mono ?_
       rintro e wa ⟨rfl, ea⟩
       rw [ea]
       clear ea wa)
    | (go_at_call 27
       refine (znil_done _).mono ?_
       rintro e wa ⟨rfl, ea⟩
       rw [ea]
       clear ea wa)
    | (go_at_call 10
       refine (KN.out _).mono ?_
       rintro e wk ⟨rfl, hb⟩
       have BK := hid (below_on B9.out hb)
       clear hb))
  go_ret
  exact ⟨rfl, BK.out⟩

end Go.Proofs.Ythjggbcppgbdoaa
