import Derived.Test.YthjggbcppgbdoabK10
import Derived.ChangeKeysEq
import Derived.Test.YthjggbcppgbdoabK01
import Derived.ProofKit
import Derived.OpenShut
import Derived.Deep.Slices
import Derived.ArgAppend
namespace Go.Proofs.Ythjggbcppgbdoab
open Go.RowKit

/-- A store that was made since w, and nothing that lay in w is changed. -/
structure Gz (w wi : World) (p : Nat) (V : List Pl) (m : Bool) (F : Nat → Prop) : Prop where
  zv : ZV wi p V m F
  fp : ∀ j, F j → w.heap.size ≤ j ∧ j < wi.heap.size
  bl : Below w.heap.size w wi

theorem Gz.below {w wi w' : World} {p : Nat} {V : List Pl} {m : Bool} {F : Nat → Prop} (h : Gz w wi p V m F) (hb : Below wi.heap.size wi w') : Gz w w' p V m F :=
  ⟨h.zv.below hb, fun j hj => ⟨(h.fp j hj).1, Nat.lt_of_lt_of_le (h.fp j hj).2 hb.size⟩, below_on h.bl hb⟩

theorem Gz.on {w wi w' : World} {p p' : Nat} {V V' : List Pl} {m m' : Bool} {F : Nat → Prop} (h : Gz w wi p V m F) (hz : ZV w' p' V' m' F) (hk : Kept F wi w') : Gz w w' p' V' m' F :=
  ⟨hz, fun j hj => ⟨(h.fp j hj).1, Nat.lt_of_lt_of_le (h.fp j hj).2 hk.size⟩, h.bl.trans (hk.below h.bl.size (fun k hk' e => by have := (h.fp k e).1; omega))⟩

theorem gput {w wi : World} {p : Nat} {V : List Pl} {m : Bool} {F : Nat → Prop} (h : Gz w wi p V m F) (key : ByteArray) (v : Int) (hl : V.length ≤ 500000) (hk : key.size ≤ 281474976710656) :
    Calls Try.prog 10 #[.pointer (some ⟨p, 0, none⟩), .string key, .int .i64 v] wi fun x w' => x = .returned (.tuple #[]) ∧ Gz w w' p (rputL key v V) m (grw F wi w') ∧ Kept F wi w' := by
  refine (vput p key v V m F wi h.zv hl hk).mono ?_
  rintro x w' ⟨rfl, hz, hk'⟩
  refine ⟨rfl, ⟨hz, fun j hj => ?_, h.bl.trans (hk'.below h.bl.size (fun k hk2 e => by have := (h.fp k e).1; omega))⟩, hk'⟩
  have := hk'.size
  have := h.bl.size
  rcases hj with h1 | ⟨h1, h2⟩
  · have := h.fp j h1; omega
  · omega

abbrev kA : ByteArray := ⟨#[97]⟩
abbrev kB : ByteArray := ⟨#[98]⟩
theorem kl_ab : kl kA kB = true := by
  unfold kl
  rw [Lib.toList_data, Lib.toList_data]
  decide
theorem kl_ea : kl ⟨#[]⟩ kA = true := by
  unfold kl
  rw [Lib.toList_data, Lib.toList_data]
  decide
theorem kl_eb : kl ⟨#[]⟩ kB = true := by
  unfold kl
  rw [Lib.toList_data, Lib.toList_data]
  decide

abbrev sa1 : Sd := ⟨0, 1, false, true, true, true⟩
abbrev sa2 : Sd := ⟨0, 2, false, true, true, true⟩
abbrev sa3 : Sd := ⟨0, 2, false, true, true, false⟩
abbrev sa4 : Sd := ⟨3, 2, true, true, false, false⟩
abbrev sb5 : Sd := ⟨0, 9, false, true, true, true⟩

theorem v1 : rputL kA 1 [] = [(kA, sa1)] := (put_new (V1 := []) (V2 := []) (by simp) (by simp)).1
theorem v2 : rputL kA 2 [(kA, sa1)] = [(kA, sa2)] := put_has (V1 := []) (V2 := []) (s := sa1) (by simp) (by simp)
theorem v3 : [(kA, sa2)].map (fun e : Pl => (e.1, e.2.mk')) = [(kA, sa3)] := rfl
theorem v4 : rputL kA 3 [(kA, sa3)] = [(kA, sa4)] := put_has (V1 := []) (V2 := []) (s := sa3) (by simp) (by simp)
theorem v5 : rputL kB 9 [(kA, sa4)] = [(kA, sa4), (kB, sb5)] := (put_new (V1 := [(kA, sa4)]) (V2 := []) (by intro e he; simp at he; subst he; exact kl_ab) (by simp)).1
theorem lA {s : Sd} : ∀ e ∈ [(kB, s)], kl kA e.1 = true := by intro e he; simp at he; subst he; exact kl_ab
theorem v6 : slotW kA [(kA, sa4), (kB, sb5)] = (sa4, true) := by
  obtain ⟨hr, hs⟩ := ri_has (key := kA) (s := sa4) (V1 := []) (V2 := [(kB, sb5)]) (by simp) lA
  unfold slotW
  have hr' : ri kA [(kA, sa4), (kB, sb5)] = 0 := hr
  have hs' : rs kA [(kA, sa4), (kB, sb5)] = true := hs
  rw [hr', hs']
  rfl
theorem v7 : rgetV kA [(kA, sa4), (kB, sb5)] = (3, true) := get_has (V1 := []) (V2 := [(kB, sb5)]) (s := sa4) (by simp) lA
theorem v8 : rdelL kA false [(kA, sa4), (kB, sb5)] = [(kB, sb5)] := (del_has (V1 := []) (V2 := [(kB, sb5)]) (s := sa4) (m := false) (by simp) lA rfl).trans rfl
theorem v9 : slotW kA [(kB, sb5)] = (⟨0, 0, false, false, false, false⟩, false) := by
  have hs : rs kA [(kB, sb5)] = false := (put_new (k := 0) (V1 := []) (V2 := [(kB, sb5)]) (by simp) lA).2
  unfold slotW
  cases [(kB, sb5)][ri kA [(kB, sb5)]]? with
  | none => rfl
  | some e => simp [hs]
theorem see_a : see true sa4 = (2, true) := rfl
theorem see_b : see true sb5 = (0, false) := rfl
theorem w1' : leastW true (bhd ⟨#[]⟩) ⟨#[]⟩ [(kA, sa4), (kB, sb5)] = (kA, 2, true) := by
  have e : fitP true (bhd ⟨#[]⟩) ⟨#[]⟩ (kA, sa4) = true := by
    unfold fitP
    rw [kl_behind, kl_ea, emp_eq rfl, see_a]
    rfl
  unfold leastW leastP
  rw [List.find?_cons, e]
  rfl
theorem w2' : leastW true (bhd kA) ⟨#[]⟩ [(kA, sa4), (kB, sb5)] = (⟨#[]⟩, 0, false) := by
  have e : fitP true (bhd kA) ⟨#[]⟩ (kA, sa4) = false := by
    unfold fitP
    rw [kl_behind, kl_irrefl]
    rfl
  have e2 : fitP true (bhd kA) ⟨#[]⟩ (kB, sb5) = false := by
    unfold fitP
    rw [see_b]
    simp
  unfold leastW leastP
  rw [List.find?_cons, e]
  simp only []
  rw [List.find?_cons, e2]
  rfl
theorem cat_ea : ((⟨#[]⟩ : ByteArray) ++ kA) = kA := by
  apply toList_inj
  rw [Lib.toList_data, Lib.toList_data]
  rfl

set_option maxRecDepth 100000 in
set_option maxHeartbeats 800000 in
theorem known33 (c1 c2 : Nat) (w : World) (h1 : Bx w c1 ⟨#[]⟩) (h2 : w.heap[c2]? = some (.cells #[.int .i64 0] 3 (0, 0))) :
    Calls Try.prog 14 #[.string kA, .int .i64 2, .pointer (some ⟨c1, 0, none⟩), .pointer (some ⟨c2, 0, none⟩)] w fun x w' => x = .returned (.bool true) ∧ Bx w' c1 kA ∧ w'.heap[c2]? = some (.cells #[.int .i64 2] 3 (0, 0)) ∧ Kept (fun j => j = c1 ∨ j = c2) w w' := by
  have d1 := cells1 h1
  have d2 := cells1 h2
  have f1 : ∀ j, w.frozen? ⟨c1, j, none⟩ = false := fun j => free_of_block h1
  have f2 : ∀ j, w.frozen? ⟨c2, j, none⟩ = false := fun j => free_of_block h2
  have ne : c1 ≠ c2 := by intro e; subst e; rw [h1] at h2; cases h2
  have hc := cat_ea
  have HH := hid (And.intro h1 h2)
  clear h1 h2
  go_enter Try.func14, Try.ntmps14
  go_wp2
  go_ret
  obtain ⟨h1, h2⟩ := HH.out
  refine ⟨rfl, ?_, ?_, ((Kept.refl _ w).setCell (p := ⟨c1, 0, none⟩) (fun _ => .inl rfl) _).setCell (p := ⟨c2, 0, none⟩) (fun _ => .inr rfl) _⟩
  · have := hp_set (set_block (i := 0) h1 (.string kA)) ne (.int .i64 2) (p := ⟨c2, 0, none⟩)
    first | exact this | simpa using this
  · exact set_block (i := 0) (hp_set h2 (fun e => ne e.symm) _) _

end Go.Proofs.Ythjggbcppgbdoab

namespace Go.Proofs.Ythjggbcppgbdoab
open Go.RowKit

theorem bhd_e : (bhd ⟨#[]⟩).size ≤ 281474976710656 := by rw [bhd_size]; decide
theorem bhd_a : (bhd kA).size ≤ 281474976710656 := by rw [bhd_size]; decide

theorem e57 : ∀ args w, (callFunc 34 args).run Try.prog w = .ok (.enter 34 args) w := enters_of Try.func34 (by kernel_rfl) rfl
theorem e33 : ∀ args w, (callFunc 14 args).run Try.prog w = .ok (.enter 14 args) w := enters_of Try.func14 (by kernel_rfl) rfl

/-- Behind the snapshot of known. -/
structure Kq (w : World) (c1 c2 : Nat) (W : World) : Prop where
  a : Bx W c1 kA
  b : W.heap[c2]? = some (.cells #[.int .i64 2] 3 (0, 0))
  k : Kept (fun j => j = c1 ∨ j = c2) w W

theorem snapK {w : World} {p : Nat} {F : Nat → Prop} {g1 g2 gp c1 c2 : Nat} (h : ZV w p [(kA, sa4), (kB, sb5)] true F) (hs : SnB w g1 g2 gp (some ⟨p, 0, none⟩) (bhd ⟨#[]⟩)) (h1 : Bx w c1 ⟨#[]⟩) (h2 : w.heap[c2]? = some (.cells #[.int .i64 0] 3 (0, 0))) (n1 : ¬ F c1) (n2 : ¬ F c2) :
    Calls Try.prog 51 #[.func (.func 14) #[] #[.pointer (some ⟨c1, 0, none⟩), .pointer (some ⟨c2, 0, none⟩)], .pointer (some ⟨g1, 0, none⟩), .pointer (some ⟨g2, 0, none⟩)] w fun x w' => x = .returned (.tuple #[]) ∧ Kq w c1 c2 w' := by
  have x1 : g2 ≠ c1 := by intro e; subst e; have := hs.s; rw [h1] at this; cases this
  have x2 : g2 ≠ c2 := by intro e; subst e; have := hs.s; rw [h2] at this; cases this
  have y1 : gp ≠ c1 := by intro e; subst e; have := hs.p; rw [h1] at this; cases this
  have y2 : gp ≠ c2 := by intro e; subst e; have := hs.p; rw [h2] at this; cases this
  have HB : BodyS 34 #[.pointer (some ⟨gp, 0, none⟩)] 14 #[.pointer (some ⟨c1, 0, none⟩), .pointer (some ⟨c2, 0, none⟩)] g2
      (fun m frm W => (m = 2 ∧ frm = bhd ⟨#[]⟩ ∧ Below w.heap.size w W) ∨ (m = 1 ∧ frm = bhd kA ∧ Kq w c1 c2 W))
      (fun m k v W => m = 2 ∧ k = kA ∧ v = 2 ∧ Below w.heap.size w W) (fun W => Kq w c1 c2 W) := by
    refine ⟨?_, ?_, ?_, ?_⟩
    · rintro m frm W (⟨-, -, hb⟩ | ⟨-, -, hq⟩)
      · exact hp_below hs.s hb (hp_lt hs.s)
      · exact hp_kept hs.s hq.k (fun e => e.elim x1 x2)
    · rintro m frm W (⟨rfl, rfl, hb⟩ | ⟨rfl, rfl, hq⟩)
      · have hz := h.below hb
        have L := vleast58 p (bhd ⟨#[]⟩) ⟨#[]⟩ _ true F W hz bhd_e (by decide)
        rw [w1'] at L
        refine (find57 (some ⟨p, 0, none⟩) (bhd ⟨#[]⟩) gp kA 2 true W (hp_below hs.p hb (hp_lt hs.p)) (vmarked p _ true F W hz) L).mono ?_
        rintro x w' ⟨rfl, hb'⟩
        exact .inr ⟨kA, 2, rfl, rfl, rfl, rfl, below_on hb hb'⟩
      · have hz : ZV W p [(kA, sa4), (kB, sb5)] true F := h.kept hq.k (fun j hj e => by
          rcases e with rfl | rfl
          · exact n1 hj
          · exact n2 hj)
        have L := vleast58 p (bhd kA) ⟨#[]⟩ _ true F W hz bhd_a (by decide)
        rw [w2'] at L
        refine (find57 (some ⟨p, 0, none⟩) (bhd kA) gp ⟨#[]⟩ 0 false W (hp_kept hs.p hq.k (fun e => e.elim y1 y2)) (vmarked p _ true F W hz) L).mono ?_
        rintro x w' ⟨rfl, hb'⟩
        exact .inl ⟨⟨#[]⟩, 0, rfl, hp_below hq.a hb' (hp_lt hq.a), hp_below hq.b hb' (hp_lt hq.b), hq.k.trans (Kept.ofBelow hb') (fun _ _ e => e.elim)⟩
    · rintro m k v W ⟨-, rfl, -⟩
      decide
    · rintro m k v W ⟨rfl, rfl, rfl, hb⟩
      refine (known33 c1 c2 W (hp_below h1 hb (hp_lt h1)) (hp_below h2 hb (hp_lt h2))).mono ?_
      rintro x w' ⟨rfl, q1, q2, q3⟩
      exact .inr ⟨rfl, 1, by decide, .inr ⟨rfl, rfl, q1, q2, ((Kept.ofBelow hb).mono (fun _ _ e => e.elim)).trans q3 (fun _ _ e => e)⟩⟩
  exact iterS HB e57 e33 2 (bhd ⟨#[]⟩) w (.inl ⟨rfl, rfl, Below.refl _ _⟩) hs.f

end Go.Proofs.Ythjggbcppgbdoab

namespace Go.Proofs.Ythjggbcppgbdoab
open Go.RowKit

theorem ci3 : Try.prog.cellsOf 3 = 1 := by kernel_rfl
theorem ci4 : Try.prog.cellsOf 4 = 1 := by kernel_rfl
theorem inf3 : ∃ i, Try.prog.info? 3 = some i := by
  cases h : Try.prog.info? 3 with
  | none => exact absurd h (by have : (Try.prog.info? 3).isSome = true := by kernel_rfl
                               intro e; rw [e] at this; cases this)
  | some i => exact ⟨i, rfl⟩
theorem inf4 : ∃ i, Try.prog.info? 4 = some i := by
  cases h : Try.prog.info? 4 with
  | none => exact absurd h (by have : (Try.prog.info? 4).isSome = true := by kernel_rfl
                               intro e; rw [e] at this; cases this)
  | some i => exact ⟨i, rfl⟩

theorem eq53 (d : Nat) (a b c e : Int) (w : World) : (Op.equalIn (d + 2) 39 (.agg #[.int .i64 a, .int .i64 b]) (.agg #[.int .i64 c, .int .i64 e])).run Try.prog w = .ok (a == c && b == e) w := by
  obtain ⟨i, hi⟩ := inf3
  rw [run_equalIn_array w (d + 1) _ _ Try.underlying39 hi, ci3]
  have h3 : ∀ (x y : Int) (w : World), (Op.equalIn (d + 1) 3 (.int .i64 x) (.int .i64 y)).run Try.prog w = .ok (x == y) w := fun x y w => by
    simp [Op.equalIn, run_underlying Try.underlying3]
  have hr : List.range 2 = [0, 1] := rfl
  rw [hr]
  simp [Op.eqItems, part, go_sem, h3]
  by_cases h1 : a = c <;> by_cases h2 : b = e <;> simp [h1, h2]

theorem eq54 (d : Nat) (a b c e : Bool) (w : World) : (Op.equalIn (d + 2) 40 (.agg #[.bool a, .bool b]) (.agg #[.bool c, .bool e])).run Try.prog w = .ok (a == c && b == e) w := by
  obtain ⟨i, hi⟩ := inf4
  rw [run_equalIn_array w (d + 1) _ _ Try.underlying40 hi, ci4]
  have h3 : ∀ (x y : Bool) (w : World), (Op.equalIn (d + 1) 4 (.bool x) (.bool y)).run Try.prog w = .ok (x == y) w := fun x y w => by
    simp [Op.equalIn, run_underlying Try.underlying4]
  have hr : List.range 2 = [0, 1] := rfl
  rw [hr]
  simp [Op.eqItems, part, go_sem, h3]
  by_cases h1 : a = c <;> by_cases h2 : b = e <;> simp [h1, h2]

theorem q53 : ∀ (a b c e : Int) (W : World), (Op.equalIn 9999 39 (.agg #[.int .i64 a, .int .i64 b]) (.agg #[.int .i64 c, .int .i64 e])).run Try.prog W = .ok (a == c && b == e) W := fun a b c e W => eq53 9997 a b c e W
theorem q54 : ∀ (a b c e : Bool) (W : World), (Op.equalIn 9999 40 (.agg #[.bool a, .bool b]) (.agg #[.bool c, .bool e])).run Try.prog W = .ok (a == c && b == e) W := fun a b c e W => eq54 9997 a b c e W

end Go.Proofs.Ythjggbcppgbdoab

namespace Go.Proofs.Ythjggbcppgbdoab
open Go.RowKit

theorem gmark {w wi : World} {p : Nat} {V : List Pl} {F : Nat → Prop} (h : Gz w wi p V false F) :
    Calls Try.prog 11 #[.pointer (some ⟨p, 0, none⟩)] wi fun x w' => x = .returned (.int .i64 0) ∧ Gz w w' p (V.map (fun e => (e.1, e.2.mk'))) true F :=
  (vmark p V F wi h.zv).mono (by rintro x w' ⟨rfl, hz, hk⟩; exact ⟨rfl, h.on hz hk⟩)

abbrev xSl : Obj := .cells #[.int .i64 3, .int .i64 2, .bool true, .bool true, .int .i64 0, .int .i64 0] 42

/-- known's store and its boxes. -/
structure K9 (w W : World) (p bx c1 c2 : Nat) (k : ByteArray) (n : Int) (V : List Pl) (m : Bool) (F : Nat → Prop) : Prop where
  g : Gz w W p V m F
  x : W.heap[bx]? = some xSl
  a : Bx W c1 k
  b : W.heap[c2]? = some (.cells #[.int .i64 n] 3 (0, 0))
  n0 : ¬ F bx
  n1 : ¬ F c1
  n2 : ¬ F c2
  l : w.heap.size ≤ c1 ∧ w.heap.size ≤ c2

theorem K9.below {w W W' : World} {p bx c1 c2 : Nat} {k : ByteArray} {n : Int} {V : List Pl} {m : Bool} {F : Nat → Prop} (h : K9 w W p bx c1 c2 k n V m F) (hb : Below W.heap.size W W') : K9 w W' p bx c1 c2 k n V m F :=
  ⟨h.g.below hb, hp_below h.x hb (hp_lt h.x), hp_below h.a hb (hp_lt h.a), hp_below h.b hb (hp_lt h.b), h.n0, h.n1, h.n2, h.l⟩
theorem K9.on {w W W' : World} {p bx c1 c2 : Nat} {k : ByteArray} {n : Int} {V V' : List Pl} {m m' : Bool} {F : Nat → Prop} (h : K9 w W p bx c1 c2 k n V m F) (hz : ZV W' p V' m' F) (hk : Kept F W W') : K9 w W' p bx c1 c2 k n V' m' F :=
  ⟨h.g.on hz hk, hp_kept h.x hk h.n0, hp_kept h.a hk h.n1, hp_kept h.b hk h.n2, h.n0, h.n1, h.n2, h.l⟩

abbrev V5 : List Pl := [(kA, sa4), (kB, sb5)]

theorem k9_start {w w7 : World} {p : Nat} {F : Nat → Prop} (h : Gz w w7 p V5 true F) : K9 w (((w7.alloc xSl).alloc (.cells #[.string ⟨#[]⟩] 9)).alloc (.cells #[.int .i64 0] 3)) p w7.heap.size (w7.heap.size + 1) (w7.heap.size + 1 + 1) ⟨#[]⟩ 0 V5 true F := by
  obtain ⟨h1, h2, h3, hb⟩ := three w7 xSl (.cells #[.string ⟨#[]⟩] 9) (.cells #[.int .i64 0] 3)
  have hf : ∀ j, w7.heap.size ≤ j → ¬ F j := fun j hj e => by have := (h.fp j e).2; omega
  have := h.bl.size
  exact ⟨h.below hb, h1, h2, h3, hf _ (by omega), hf _ (by omega), hf _ (by omega), by omega, by omega⟩

set_option maxRecDepth 100000 in
set_option maxHeartbeats 4000000 in
theorem known_any (w : World) : Calls Try.prog 4 #[] w fun x w' => x = .returned (.bool true) ∧ Below w.heap.size w w' := by
  have hmf : ∀ (fn : Fn) (first cap : Array Value) (w : World), (Instr.makeFunc fn first cap).run Try.prog w = .ok (.func fn first cap) w := fun _ _ _ _ => rfl
  have h53 := q53
  have h54 := q54
  have NW := hid (show Calls Try.prog 9 #[] w fun x w' => x = .returned (.pointer (some ⟨w.heap.size, 0, none⟩)) ∧ Hid (Gz w w' w.heap.size [] false (fun j => j = w.heap.size)) from (vnew w).mono (by
    rintro x w' ⟨rfl, hz, hb, hs⟩
    exact ⟨rfl, hid ⟨hz, fun j hj => by subst hj; omega, hb⟩⟩))
  generalize hp : w.heap.size = p at NW
  have HP := hid hp
  clear hp
  have P1 := hid (show ∀ wi F, Gz w wi p [] false F → Calls Try.prog 10 #[.pointer (some ⟨p, 0, none⟩), .string kA, .int .i64 1] wi fun x w' => x = .returned (.tuple #[]) ∧ Hid (∃ F, Gz w w' p [(kA, sa1)] false F) from fun wi F h => (gput h kA 1 (by decide) (by decide)).mono (by
    rintro x w' ⟨rfl, hz, -⟩
    exact ⟨rfl, hid ⟨_, v1 ▸ hz⟩⟩))
  have P2 := hid (show ∀ wi, (∃ F, Gz w wi p [(kA, sa1)] false F) → Calls Try.prog 10 #[.pointer (some ⟨p, 0, none⟩), .string kA, .int .i64 2] wi fun x w' => x = .returned (.tuple #[]) ∧ Hid (∃ F, Gz w w' p [(kA, sa2)] false F) from fun wi ⟨F, h⟩ => (gput h kA 2 (by decide) (by decide)).mono (by
    rintro x w' ⟨rfl, hz, -⟩
    exact ⟨rfl, hid ⟨_, v2 ▸ hz⟩⟩))
  have P3 := hid (show ∀ wi, (∃ F, Gz w wi p [(kA, sa2)] false F) → Calls Try.prog 11 #[.pointer (some ⟨p, 0, none⟩)] wi fun x w' => x = .returned (.int .i64 0) ∧ Hid (∃ F, Gz w w' p [(kA, sa3)] true F) from fun wi ⟨F, h⟩ => (gmark h).mono (by
    rintro x w' ⟨rfl, hz⟩
    exact ⟨rfl, hid ⟨_, hz⟩⟩))
  have P4 := hid (show ∀ wi, (∃ F, Gz w wi p [(kA, sa3)] true F) → Calls Try.prog 10 #[.pointer (some ⟨p, 0, none⟩), .string kA, .int .i64 3] wi fun x w' => x = .returned (.tuple #[]) ∧ Hid (∃ F, Gz w w' p [(kA, sa4)] true F) from fun wi ⟨F, h⟩ => (gput h kA 3 (by decide) (by decide)).mono (by
    rintro x w' ⟨rfl, hz, -⟩
    exact ⟨rfl, hid ⟨_, v4 ▸ hz⟩⟩))
  have P5 := hid (show ∀ wi, (∃ F, Gz w wi p [(kA, sa4)] true F) → Calls Try.prog 10 #[.pointer (some ⟨p, 0, none⟩), .string kB, .int .i64 9] wi fun x w' => x = .returned (.tuple #[]) ∧ Hid (∃ F, Gz w w' p [(kA, sa4), (kB, sb5)] true F) from fun wi ⟨F, h⟩ => (gput h kB 9 (by decide) (by decide)).mono (by
    rintro x w' ⟨rfl, hz, -⟩
    exact ⟨rfl, hid ⟨_, v5 ▸ hz⟩⟩))
  have P6 := hid (show ∀ wi, (∃ F, Gz w wi p [(kA, sa4), (kB, sb5)] true F) → Calls Try.prog 12 #[.pointer (some ⟨p, 0, none⟩), .string kA] wi fun x w' => x = .returned (.tuple #[.agg #[.int .i64 3, .int .i64 2, .bool true, .bool true, .int .i64 0, .int .i64 0], .bool true]) ∧ Hid (∃ F, Gz w w' p [(kA, sa4), (kB, sb5)] true F) from fun wi ⟨F, h⟩ => (vslot p kA _ true F wi h.zv).mono (by
    rintro x w' ⟨rfl, hb⟩
    rw [v6]
    exact ⟨rfl, hid ⟨F, h.below hb⟩⟩))
  have P7 := hid (show ∀ w7, (∃ F, Gz w w7 p V5 true F) → Calls Try.prog 13 #[.pointer (some ⟨p, 0, none⟩), .string ⟨#[]⟩] (((w7.alloc xSl).alloc (.cells #[.string ⟨#[]⟩] 9)).alloc (.cells #[.int .i64 0] 3)) fun x w' => ∃ g1 g2, x = .returned (itS g1 g2) ∧ Hid (∃ F gp, K9 w w' p w7.heap.size (w7.heap.size + 1) (w7.heap.size + 1 + 1) ⟨#[]⟩ 0 V5 true F ∧ SnB w' g1 g2 gp (some ⟨p, 0, none⟩) (bhd ⟨#[]⟩)) from fun w7 ⟨F, h⟩ => (ssnap_any (some ⟨p, 0, none⟩) ⟨#[]⟩ _ (by decide)).mono (by
    rintro x w' ⟨g1, g2, gp, rfl, hs, hb, -⟩
    exact ⟨g1, g2, rfl, hid ⟨F, gp, (k9_start h).below hb, hs⟩⟩))
  have P8 := hid (show ∀ W bx c1 c2 g1 g2, (∃ F gp, K9 w W p bx c1 c2 ⟨#[]⟩ 0 V5 true F ∧ SnB W g1 g2 gp (some ⟨p, 0, none⟩) (bhd ⟨#[]⟩)) → Calls Try.prog 51 #[.func (.func 14) #[] #[.pointer (some ⟨c1, 0, none⟩), .pointer (some ⟨c2, 0, none⟩)], .pointer (some ⟨g1, 0, none⟩), .pointer (some ⟨g2, 0, none⟩)] W fun x w' => x = .returned (.tuple #[]) ∧ Hid (∃ F, K9 w w' p bx c1 c2 kA 2 V5 true F) from fun W bx c1 c2 g1 g2 ⟨F, gp, h, hs⟩ => (snapK h.g.zv hs h.a h.b h.n1 h.n2).mono (by
    rintro x w' ⟨rfl, hq⟩
    refine ⟨rfl, hid ⟨F, ⟨h.g.zv.kept hq.k (fun j hj e => ?_), fun j hj => ⟨(h.g.fp j hj).1, Nat.lt_of_lt_of_le (h.g.fp j hj).2 hq.k.size⟩, h.g.bl.trans (hq.k.below h.g.bl.size (fun k hk e => ?_))⟩, ?_, hq.a, hq.b, h.n0, h.n1, h.n2, h.l⟩⟩
    · rcases e with rfl | rfl
      · exact h.n1 hj
      · exact h.n2 hj
    · have := h.l
      rcases e with rfl | rfl <;> omega
    · refine hp_kept h.x hq.k (fun e => ?_)
      have hx := h.x
      rcases e with e | e
      · rw [e, h.a] at hx; cases hx
      · rw [e, h.b] at hx; cases hx))
  have P9 := hid (show ∀ W bx c1 c2, (∃ F, K9 w W p bx c1 c2 kA 2 V5 true F) → Calls Try.prog 15 #[.pointer (some ⟨p, 0, none⟩), .string kA] W fun x w' => x = .returned (.tuple #[.int .i64 3, .bool true]) ∧ Hid (∃ F, K9 w w' p bx c1 c2 kA 2 V5 true F) from fun W bx c1 c2 ⟨F, h⟩ => (vget p kA _ true F W h.g.zv).mono (by
    rintro x w' ⟨rfl, hb⟩
    rw [v7]
    exact ⟨rfl, hid ⟨F, h.below hb⟩⟩))
  have Pa := hid (show ∀ W bx c1 c2, (∃ F, K9 w W p bx c1 c2 kA 2 V5 true F) → Calls Try.prog 11 #[.pointer (some ⟨p, 0, none⟩)] W fun x w' => x = .returned (.int .i64 18) ∧ w' = W from fun W bx c1 c2 ⟨F, h⟩ => vbusy p _ F W h.g.zv)
  have Pb := hid (show ∀ W bx c1 c2, (∃ F, K9 w W p bx c1 c2 kA 2 V5 true F) → Calls Try.prog 16 #[.pointer (some ⟨p, 0, none⟩)] W fun x w' => x = .returned (.int .i64 0) ∧ Hid (∃ F, K9 w w' p bx c1 c2 kA 2 V5 false F) from fun W bx c1 c2 ⟨F, h⟩ => (vdone_calm p _ F W h.g.zv (by intro e he; simp at he; rcases he with rfl | rfl <;> rfl)).mono (by
    rintro x w' ⟨rfl, hz, hk⟩
    exact ⟨rfl, hid ⟨F, h.on hz hk⟩⟩))
  have Pc := hid (show ∀ W bx c1 c2, (∃ F, K9 w W p bx c1 c2 kA 2 V5 false F) → Calls Try.prog 17 #[.pointer (some ⟨p, 0, none⟩), .string kA] W fun x w' => x = .returned (.tuple #[]) ∧ Hid (∃ F, K9 w w' p bx c1 c2 kA 2 [(kB, sb5)] false F) from fun W bx c1 c2 ⟨F, h⟩ => (vdel p kA _ false F W h.g.zv (by decide)).mono (by
    rintro x w' ⟨rfl, hz, hk⟩
    rw [v8] at hz
    exact ⟨rfl, hid ⟨F, h.on hz hk⟩⟩))
  have Pd := hid (show ∀ W bx c1 c2, (∃ F, K9 w W p bx c1 c2 kA 2 [(kB, sb5)] false F) → Calls Try.prog 12 #[.pointer (some ⟨p, 0, none⟩), .string kA] W fun x w' => x = .returned (.tuple #[zAg, .bool false]) ∧ Hid (∃ F, K9 w (w'.alloc zSl) p bx c1 c2 kA 2 [(kB, sb5)] false F) from fun W bx c1 c2 ⟨F, h⟩ => (vslot p kA _ false F W h.g.zv).mono (by
    rintro x w' ⟨rfl, hb⟩
    rw [v9]
    exact ⟨rfl, hid ⟨F, h.below (below_on hb (below_new w' _))⟩⟩))
  have Pe := hid (show ∀ W bx c1 c2, (∃ F, K9 w W p bx c1 c2 kA 2 [(kB, sb5)] false F) → Calls Try.prog 18 #[.pointer (some ⟨p, 0, none⟩)] W fun x w' => x = .returned (.int .i64 1) ∧ w' = W from fun W bx c1 c2 ⟨F, h⟩ => vlen p _ false F W h.g.zv)
  go_enter Try.func4, Try.ntmps4
  go_wp2_with (first
    | (go_at_call 9
       refine NW.out.mono ?_
       rintro e w1 ⟨rfl, G1⟩
       clear NW)
    | (go_at_call 10
       refine (P1.out w1 _ G1.out).mono ?_
       rintro e w2 ⟨rfl, G2⟩
       clear P1 G1)
    | (go_at_call 10
       refine (P2.out w2 G2.out).mono ?_
       rintro e w3 ⟨rfl, G3⟩
       clear P2 G2)
    | (go_at_call 11
       refine (P3.out w3 G3.out).mono ?_
       rintro e w4 ⟨rfl, G4⟩
       clear P3 G3)
    | (go_at_call 10
       refine (P4.out w4 G4.out).mono ?_
       rintro e w5 ⟨rfl, G5⟩
       clear P4 G4)
    | (go_at_call 10
       refine (P5.out w5 G5.out).mono ?_
       rintro e w6 ⟨rfl, G6⟩
       clear P5 G5)
    | (go_at_call 12
       refine (P6.out w6 G6.out).mono ?_
       rintro e w7 ⟨rfl, G7⟩
       clear P6 G6)
    | (go_at_call 13
       refine (P7.out w7 G7.out).mono ?_
       rintro e w8 ⟨g1, g2, rfl, G8⟩
       clear P7 G7)
    | (go_at_call 51
       refine (P8.out w8 w7.heap.size _ _ g1 g2 G8.out).mono ?_
       rintro e w9 ⟨rfl, G9⟩
       clear P8 G8)
    | (go_at_call 15
       refine (P9.out w9 _ _ _ G9.out).mono ?_
       rintro e w10 ⟨rfl, G10⟩
       clear P9 G9)
    | (go_at_call 11
       refine (Pa.out w10 _ _ _ G10.out).mono ?_
       rintro e w11 ⟨rfl, e11⟩
       rw [e11]
       clear Pa e11 w11)
    | (go_at_call 16
       refine (Pb.out w10 _ _ _ G10.out).mono ?_
       rintro e w12 ⟨rfl, G12⟩
       clear Pb G10)
    | (go_at_call 17
       refine (Pc.out w12 _ _ _ G12.out).mono ?_
       rintro e w13 ⟨rfl, G13⟩
       clear Pc G12)
    | (go_at_call 12
       refine (Pd.out w13 _ _ _ G13.out).mono ?_
       rintro e w14 ⟨rfl, G14⟩
       obtain ⟨x0, x1, x2, x3, x4, x5⟩ : _ ∧ _ ∧ _ ∧ _ ∧ _ ∧ _ := by
         obtain ⟨F, h⟩ := G14.out
         exact cells6 h.x
       have xa : (w14.alloc zSl).cell? ⟨w7.heap.size + 1, 0, none⟩ = some (.string kA) := by
         obtain ⟨F, h⟩ := G14.out
         exact cells1 h.a
       have xb : (w14.alloc zSl).cell? ⟨w7.heap.size + 1 + 1, 0, none⟩ = some (.int .i64 2) := by
         obtain ⟨F, h⟩ := G14.out
         exact cells1 h.b
       clear Pd G13)
    | (go_at_call 18
       refine (Pe.out _ _ _ _ G14.out).mono ?_
       rintro e w15 ⟨rfl, e15⟩
       rw [e15]
       clear e15 w15))
  go_ret
  obtain ⟨F, h⟩ := G14.out
  have hp := HP.out
  have hb := h.g.bl
  rw [hp] at hb
  exact ⟨rfl, hb⟩

end Go.Proofs.Ythjggbcppgbdoab

namespace Go.Proofs.Ythjggbcppgbdoab
open Go.RowKit

theorem add_lit (b off j : Nat) : (⟨b, off, none⟩ : Addr).add j = ⟨b, off + j, none⟩ := by
  unfold Addr.add; split <;> simp_all
theorem owns_block {w : World} {B : Nat} {e : TypeId} {size : Nat} {v : Value} {n : Nat} {xs : List Value} (h : w.ownsRow B e size v n xs) : ∀ k, v.ownBlock = some k → ∃ cs, w.heap[k]? = some (.cells cs e (0, 0)) := by
  intro k hk
  rcases h.2 with ⟨rfl, _⟩ | ⟨g, cap, cur, rfl, hb, hg, _⟩
  · simp [Value.ownBlock] at hk
  · simp [Value.ownBlock] at hk
    subst hk
    exact ⟨_, hg⟩
theorem own_ne_blk {w : World} {B : Nat} {e : TypeId} {s : Nat} {v : Value} {n : Nat} {xs : List Value} (h : w.ownsRow B e s v n xs) {k : Nat} {cs : Array Value} {t : TypeId} {fr : Nat × Nat} (hb : w.heap[k]? = some (.cells cs t fr)) (hne : e ≠ t) : v.ownBlock ≠ some k := by
  intro h1
  obtain ⟨cs', a⟩ := owns_block h k h1
  rw [a] at hb
  injection hb with b
  injection b with b1 b2
  exact hne b2
theorem own_shape {w : World} {B : Nat} {e : TypeId} {size : Nat} {v : Value} {n : Nat} {xs : List Value} (h : w.ownsRow B e size v n xs) : ∃ ao c, v = .slice ao n c := by
  rcases h.2 with ⟨e1, e2⟩ | ⟨g, cap, cur, e1, _⟩
  · exact ⟨none, 0, by rw [e1, e2]⟩
  · exact ⟨_, _, e1⟩

/-- v is a slice of n elements of m cells each, and these are its cells. -/
def Rf (w : World) (m : Nat) (v : Value) (n : Nat) (cs : List Value) : Prop :=
  cs.length = n * m ∧ (∀ u ∈ cs, u.oneCell' = true) ∧ ((v = .slice none 0 0 ∧ n = 0) ∨ ∃ a cap, v = .slice (some a) n cap ∧ n ≤ cap ∧ cap ≤ maxLen ∧ ∀ j u, cs[j]? = some u → w.cell? (a.add j) = some u)

theorem rf_nil (w : World) (m : Nat) : Rf w m (.slice none 0 0) 0 [] := ⟨by simp, (fun _ h => nomatch h), .inl ⟨rfl, rfl⟩⟩

theorem Rf.shape {w : World} {m : Nat} {v : Value} {n : Nat} {cs : List Value} (h : Rf w m v n cs) : ∃ ao cap, v = .slice ao n cap ∧ n ≤ cap ∧ cap ≤ maxLen := by
  rcases h.2.2 with ⟨rfl, rfl⟩ | ⟨a, cap, rfl, h1, h2, _⟩
  · exact ⟨none, 0, rfl, Nat.le_refl _, by simp [maxLen]⟩
  · exact ⟨_, _, rfl, h1, h2⟩

theorem Rf.lits {w : World} {m : Nat} {v : Value} {n : Nat} {cs : List Value} (h : Rf w m v n cs) (h0 : 0 < n) (hm : 0 < m) : ∃ b off cap, v = .slice (some ⟨b, off, none⟩) n cap ∧ n ≤ cap ∧ cap ≤ maxLen ∧ ∀ j u, cs[j]? = some u → w.cell? ⟨b, off + j, none⟩ = some u := by
  obtain ⟨hl, -, h2⟩ := h
  rcases h2 with ⟨rfl, rfl⟩ | ⟨a, cap, rfl, h3, h5, h4⟩
  · omega
  · obtain ⟨b, off, spot⟩ := a
    have hpos : 0 < cs.length := by rw [hl]; exact Nat.mul_pos h0 hm
    have c0 := h4 0 cs[0] (by simp [hpos])
    have hspot : spot = none := by simpa [Addr.add] using World.cell?_spot c0
    subst hspot
    refine ⟨b, off, cap, rfl, h3, h5, fun j u hu => ?_⟩
    have := h4 j u hu
    rwa [add_lit] at this

theorem Rf.kept {w w' : World} {m : Nat} {v : Value} {n : Nat} {cs : List Value} {S : Nat → Prop} (h : Rf w m v n cs) (hk : Kept S w w') (hn : ∀ k, v.ownBlock = some k → ¬ S k) : Rf w' m v n cs := by
  obtain ⟨h0, h1, h2⟩ := h
  refine ⟨h0, h1, ?_⟩
  rcases h2 with h2 | ⟨a, cap, rfl, h3, h5, h4⟩
  · exact .inl h2
  · refine .inr ⟨a, cap, rfl, h3, h5, fun j u hu => hk.cell (h4 j u hu) ?_⟩
    have e : (a.add j).block = a.block := by unfold Addr.add; split <;> rfl
    rw [e]
    exact hn _ rfl

theorem Rf.below {w w' : World} {m : Nat} {v : Value} {n : Nat} {cs : List Value} (h : Rf w m v n cs) (hk : Below w.heap.size w w') : Rf w' m v n cs := h.kept (Kept.ofBelow hk) (fun _ _ h => h)

theorem rf_of_owns {w : World} {B : Nat} {e : TypeId} {m : Nat} {v : Value} {n : Nat} {xs : List Value} (h : w.ownsRow B e m v n xs) (h1 : ∀ u ∈ xs, u.oneCell' = true) : Rf w m v n xs := by
  refine ⟨h.1, h1, ?_⟩
  rcases h.2 with h0 | ⟨g, cap, cur, rfl, hb, hg, hc, hm, hs, ht⟩
  · exact .inl h0
  · refine .inr ⟨_, cap, rfl, hc, hm, fun j u hu => ?_⟩
    exact h.cells (g := g) rfl j u hu

/-- Any row onto an owned one. -/
theorem append_rf (w : World) (ty : TypeId) (B : Nat) (t e : TypeId) (z : Value) (m bytes : Nat) (ht : Try.prog.underlying t = some (.slice e)) (hinfo : (Try.prog.info? e).map (fun i => (i.zero, i.size, i.bytes)) = some (some z, m, bytes)) (hzs : z.cells.size = m) (hm : 0 < m)
    (v : Value) (n : Nat) (xs : List Value) (hown : w.ownsRow B e m v n xs) (sv : Value) (k : Nat) (ys : List Value) (hs : Rf w m sv k ys) (hl : (n + k) * bytes ≤ 140737488355328) (hl2 : n + k ≤ maxLen) (hbase : B ≤ w.heap.size) :
    ∃ v' w', (Builtin.append_ #[t, t] ty #[v, sv]).run Try.prog w = .ok v' w' ∧ w'.ownsRow B e m v' (n + k) (xs ++ ys) ∧ w.grownBy w' v.ownBlock ∧ (v'.ownBlock = v.ownBlock ∨ v'.ownBlock = some w.heap.size) := by
  obtain ⟨i0, hi, hz0, hz1, hz2⟩ := info_parts hinfo
  obtain ⟨h0, h1, h2⟩ := hs
  rcases h2 with ⟨rfl, rfl⟩ | ⟨a, cap, rfl, h3, h5, h4⟩
  · have hy : ys = [] := List.eq_nil_of_length_eq_zero (by simpa using h0)
    subst hy
    exact ⟨v, w, run_append_owned_none (P := Try.prog) (w := w) B t ty e i0 m ht hi v n xs hown, by simpa using hown, ⟨rfl, rfl, rfl, Nat.le_refl _, fun _ _ _ => rfl⟩, .inl rfl⟩
  · obtain ⟨v', w', hr, q1, q2, _, q4⟩ := run_append_own_at (P := Try.prog) w B t ty e i0 z m bytes ht hi hz0 hz1 hz2 hzs hm v n xs hown a k cap ys h0 h4 h1 hl2 hl hbase
    exact ⟨v', w', hr, q1, q2, q4⟩

theorem wpList_append_rf (w : World) {ops : Array Oper} {rest : List Oper} {o : Oper} {a : Act} {Q : Exit → Act → World → Prop} (hgd : o.guard = none) (s x : Operand) (t e : TypeId) (z : Value) (m bytes : Nat)
    (ho : o.op = .call { callee := .builtin .append, args := #[s, x], argTypes := #[t, t] }) (ht : Try.prog.underlying t = some (.slice e)) (hinfo : (Try.prog.info? e).map (fun i => (i.zero, i.size, i.bytes)) = some (some z, m, bytes)) (hzs : z.cells.size = m) (hm : 0 < m)
    (B : Nat) (v : Value) (n : Nat) (xs : List Value) (hs : a.eval s = v) (hown : w.ownsRow B e m v n xs)
    (sv : Value) (k : Nat) (ys : List Value) (hx : a.eval x = sv) (hsn : Rf w m sv k ys) (hl : (n + k) * bytes ≤ 140737488355328) (hl2 : n + k ≤ maxLen) (hbase : B ≤ w.heap.size)
    (h : ∀ ao c w', Hid (w'.ownsRow B e m (.slice ao (n + k) c) (n + k) (xs ++ ys)) → Hid (w.grownBy w' v.ownBlock) → Hid ((Value.slice ao (n + k) c).ownBlock = v.ownBlock ∨ (Value.slice ao (n + k) c).ownBlock = some w.heap.size) → wpList Try.prog ops Q rest (a.put o.dst (.slice ao (n + k) c)) w') : wpList Try.prog ops Q (o :: rest) a w := by
  refine wpList_plain hgd fun K hK => ?_
  obtain ⟨v', w', hr, h2, h3, h4⟩ := append_rf w o.type B t e z m bytes ht hinfo hzs hm v n xs hown sv k ys hsn hl hl2 hbase
  obtain ⟨ao, c, rfl⟩ := own_shape h2
  unfold Oper.wp execOp
  simp only [ho, resolve, invoke, builtin, Sem.run_bind, Sem.run_pure, Result.andThen_ok, List.map_toArray, List.map_cons, List.map_nil, hs, hx, hr]
  exact hK _ _ (h ao c w' (hid h2) (hid h3) (hid h4))

theorem step_append_rf (w : World) {ops : Array Oper} {o : Oper} {a : Act} {K : Act → World → Prop} {Q : Exit → Act → World → Prop} {E : Prop} (hgd : o.guard = none) (s x : Operand) (t e : TypeId) (z : Value) (m bytes : Nat)
    (ho : o.op = .call { callee := .builtin .append, args := #[s, x], argTypes := #[t, t] }) (ht : Try.prog.underlying t = some (.slice e)) (hinfo : (Try.prog.info? e).map (fun i => (i.zero, i.size, i.bytes)) = some (some z, m, bytes)) (hzs : z.cells.size = m) (hm : 0 < m)
    (B : Nat) (v : Value) (n : Nat) (xs : List Value) (hs : a.eval s = v) (hown : w.ownsRow B e m v n xs)
    (sv : Value) (k : Nat) (ys : List Value) (hx : a.eval x = sv) (hsn : Rf w m sv k ys) (hl : (n + k) * bytes ≤ 140737488355328) (hl2 : n + k ≤ maxLen) (hbase : B ≤ w.heap.size)
    (h : ∀ ao c w', Hid (w'.ownsRow B e m (.slice ao (n + k) c) (n + k) (xs ++ ys)) → Hid (w.grownBy w' v.ownBlock) → Hid ((Value.slice ao (n + k) c).ownBlock = v.ownBlock ∨ (Value.slice ao (n + k) c).ownBlock = some w.heap.size) → K (a.put o.dst (.slice ao (n + k) c)) w') :
    if Region.wanted o (yielded ops a.tmps) = true then Oper.wp Try.prog o a w K Q else E := by
  have hw : Region.wanted o (yielded ops a.tmps) = true := by simp [Region.wanted, hgd]
  rw [if_pos hw]
  obtain ⟨v', w', hr, h2, h3, h4⟩ := append_rf w o.type B t e z m bytes ht hinfo hzs hm v n xs hown sv k ys hsn hl hl2 hbase
  obtain ⟨ao, c, rfl⟩ := own_shape h2
  unfold Oper.wp execOp
  simp only [ho, resolve, invoke, builtin, Sem.run_bind, Sem.run_pure, Result.andThen_ok, List.map_toArray, List.map_cons, List.map_nil, hs, hx, hr]
  exact h ao c w' (hid h2) (hid h3) (hid h4)

/-- The cells of one element of a flat row. -/
theorem flat_get {α : Type} (f : α → List Value) (m : Nat) (hf : ∀ x, (f x).length = m) : ∀ (xs : List α) (k c : Nat), c < m → (xs.flatMap f)[k * m + c]? = (xs[k]?).bind (fun x => (f x)[c]?)
  | [], k, c, _ => by simp
  | x :: xs, 0, c, h => by simp [List.getElem?_append_left, hf, h]
  | x :: xs, k + 1, c, h => by
    have ih := flat_get f m hf xs k c h
    rw [List.flatMap_cons, List.getElem?_append_right (by rw [hf, Nat.succ_mul]; omega), hf]
    have e : (k + 1) * m + c - m = k * m + c := by rw [Nat.succ_mul]; omega
    rw [e, ih]
    simp

theorem flat_len {α : Type} (f : α → List Value) (m : Nat) (hf : ∀ x, (f x).length = m) : ∀ xs : List α, (xs.flatMap f).length = xs.length * m
  | [] => by simp
  | x :: xs => by rw [List.flatMap_cons, List.length_append, hf, flat_len f m hf xs, List.length_cons, Nat.succ_mul]; omega

theorem add_add (a : Addr) (x y : Nat) : (a.add x).add y = a.add (x + y) := by
  unfold Addr.add
  by_cases hx : x = 0
  · subst hx; simp
  · by_cases hy : y = 0
    · subst hy; simp
    · simp [hx, hy, Nat.add_assoc]

/-- A slice whose elements are read, element by element. -/
theorem rf_of_trod {H : Type} {enc : TypeId × Value → H} {W : World} {base : Nat} {held : Bool} {fuel : Nat} {t e : TypeId} {cs : List Value} {x : DataW H × List MemPlace} {α : Type} [Inhabited α] (f : α → List Value) (p : α → Prop) (m : Nat) (hf : ∀ y, (f y).length = m) (h1 : ∀ y, ∀ u ∈ f y, u.oneCell' = true)
    (ht : Try.prog.underlying t = some (.slice e)) (hm : Try.prog.cellsOf e = m) (hel : ∀ n cs' x', DataW.trod enc Try.prog W base (fun _ => true) held n e cs' = some x' → ∃ y : α, p y ∧ cs' = f y)
    (h : DataW.trod enc Try.prog W base (fun _ => true) held fuel t cs = some x) : ∃ (v : Value) (ys : List α), cs = [v] ∧ Rf W m v ys.length (ys.flatMap f) ∧ ∀ y ∈ ys, p y := by
  rcases Go.Deep.open_slice ht h with ⟨rfl, _⟩ | ⟨a, len, cap, mm, n, D, Pl, rfl, _, hl, hcm, hmm, _, hx⟩
  · exact ⟨_, [], rfl, rf_nil W m, (fun _ h => nomatch h)⟩
  · simp only [if_true] at hmm
    subst hmm
    rw [hm] at hx
    have key : ∀ i, i < len → ∃ y : α, p y ∧ ∀ c, c < m → W.cell? ((a.add (i * m)).add c) = (f y)[c]? := by
      intro i hi
      obtain ⟨cs', q1, q2⟩ := hx i (by omega)
      obtain ⟨y, hy, rfl⟩ := hel _ _ _ q2
      exact ⟨y, hy, fun c hc => (World.cells?_some q1).2.2 c hc⟩
    obtain ⟨F, hF⟩ := Go.Deep.choose_lt key
    refine ⟨_, (List.range len).map F, rfl, ⟨flat_len f m hf _, ?_, .inr ⟨a, mm, by simp, by simpa using hl, hcm, ?_⟩⟩, ?_⟩
    · intro u hu
      obtain ⟨y, _, hy⟩ := List.mem_flatMap.1 hu
      exact h1 y u hy
    · intro j u hu
      have hmp : 0 < m := by
        rcases Nat.eq_zero_or_pos m with h0 | h0
        · have hz := flat_len f m hf ((List.range len).map F)
          rw [h0, Nat.mul_zero] at hz
          rw [List.eq_nil_of_length_eq_zero hz] at hu
          simp at hu
        · exact h0
      have hj : j = j / m * m + j % m := by rw [Nat.mul_comm]; exact (Nat.div_add_mod j m).symm
      have hc : j % m < m := Nat.mod_lt _ hmp
      rw [hj, flat_get f m hf _ _ _ hc] at hu
      rw [List.getElem?_map] at hu
      have hlt : j / m < len := by
        rcases Nat.lt_or_ge (j / m) len with h | h
        · exact h
        · rw [List.getElem?_eq_none (by simpa using h)] at hu
          simp at hu
      simp [hlt] at hu
      have := (hF (j / m) hlt).2 (j % m) hc
      rw [hu, add_add, ← hj] at this
      exact this
    · intro y hy
      simp at hy
      obtain ⟨i, hi, rfl⟩ := hy
      exact (hF i hi).1

end Go.Proofs.Ythjggbcppgbdoab
