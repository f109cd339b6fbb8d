import Derived.Test.YtkalppcekmlgbabOa
import Derived.Test.YtkalppcekmlgbabRg
namespace Go.Proofs.Ytkalppcekmlgbab
open Go.RowKit

def is1 (e : En) : Bool := match e.2.2 with | .int _ n => n == 1 | _ => false

/-- What the table's values are: a key that has 1 is touched by nobody. -/
structure Good (tc : ByteArray → Prop) (l : List En) : Prop where
  iv : ∀ e ∈ l, ∃ n, e.2.2 = .int .i64 n
  sh : ∀ e ∈ l, e.2.1.size ≤ 281474976710656
  un : ∀ e ∈ l, is1 e = true → ¬ tc e.2.1

/-- Keys that have 1 are as they were; d keys more at the most. -/
structure Ch (l l' : List En) (d : Nat) : Prop where
  c1 : ∀ P : ByteArray → Bool, l'.countP (fun e => is1 e && P e.2.1) = l.countP (fun e => is1 e && P e.2.1)
  c2 : ∀ P : ByteArray → Bool, l'.countP (fun e => P e.2.1) ≤ l.countP (fun e => P e.2.1) + d

theorem Ch.refl (l : List En) : Ch l l 0 := ⟨fun _ => rfl, fun _ => Nat.le_refl _⟩
theorem Ch.trans {a b c : List En} {d d' : Nat} (h : Ch a b d) (h' : Ch b c d') : Ch a c (d + d') :=
  ⟨fun P => (h'.c1 P).trans (h.c1 P), fun P => by have := h.c2 P; have := h'.c2 P; omega⟩
theorem Ch.mono {a b : List En} {d d' : Nat} (h : Ch a b d) (hd : d ≤ d') : Ch a b d' := ⟨h.c1, fun P => by have := h.c2 P; omega⟩

theorem blk_uniq {w : World} {p : Nat} {t : Tr} (ht : Tb w p t) {x c : En} (hx : x ∈ t.toL) (hc : c ∈ t.toL) (he : x.1 = c.1) : x = c := by
  have hnd := ht.nd
  unfold Tr.bs blks at hnd
  obtain ⟨i, hi, rfl⟩ := List.getElem_of_mem hx
  obtain ⟨j, hj, rfl⟩ := List.getElem_of_mem hc
  have h1 : (t.toL.map (·.1))[i]'(by simpa using hi) = (t.toL.map (·.1))[j]'(by simpa using hj) := by simpa using he
  have := (List.getElem_inj hnd).1 h1
  subst this
  rfl

theorem put_good {tc : ByteArray → Prop} {w w' : World} {p : Nat} {t t' : Tr} {key : ByteArray} {n : Int} (ht : Tb w p t) (h : PutP w w' p t t' key (.int .i64 n)) (hg : Good tc t.toL) (hk : key.size ≤ 281474976710656) (hn : n = 1 → ¬ tc key) : Good tc t'.toL := by
  obtain ⟨h1, -⟩ := put_mem ht h
  refine ⟨fun e he => ?_, fun e he => ?_, fun e he hi => ?_⟩
  · rcases h1 e he with ⟨_, e2⟩ | ⟨e0, hm, _, e2⟩
    · exact ⟨n, e2⟩
    · rw [← e2]; exact hg.iv e0 hm
  · rcases h1 e he with ⟨e1, _⟩ | ⟨e0, hm, e1, _⟩
    · rw [e1]; exact hk
    · rw [← e1]; exact hg.sh e0 hm
  · rcases h1 e he with ⟨e1, e2⟩ | ⟨e0, hm, e1, e2⟩
    · rw [e1]
      unfold is1 at hi
      rw [e2] at hi
      exact hn (by simpa using hi)
    · rw [← e1]
      refine hg.un e0 hm ?_
      unfold is1 at hi ⊢
      rw [e2]
      exact hi

/-- A key that somebody touches is put. -/
theorem put_ch {tc : ByteArray → Prop} {w w' : World} {p : Nat} {t t' : Tr} {key : ByteArray} (ht : Tb w p t) (h : PutP w w' p t t' key (.int .i64 2)) (hg : Good tc t.toL) (hc : tc key) : Ch t.toL t'.toL 1 := by
  rcases h.ls with ⟨c, hc0, hl⟩ | ⟨hc0, m, hl⟩
  · have hcm := ent_some hc0
    have hc1 : is1 c = false := by
      cases hi : is1 c
      · rfl
      · exact absurd hc (by rw [← hcm.2]; exact hg.un c hcm.1 hi)
    refine ⟨fun P => ?_, fun P => ?_⟩
    · rw [hl, List.countP_map]
      refine List.countP_congr (fun x hx => ?_)
      simp only [Function.comp]
      by_cases hxe : x.1 = c.1
      · have := blk_uniq ht hx hcm.1 hxe
        subst this
        rw [if_pos rfl, hc1]
        simp [is1]
      · rw [if_neg hxe]
    · rw [hl, List.countP_map]
      refine Nat.le_succ_of_le (Nat.le_of_eq (List.countP_congr (fun x hx => ?_)))
      simp only [Function.comp]
      split <;> rfl
  · have hp := ins_perm (m, key, Value.int .i64 2) t.toL
    refine ⟨fun P => ?_, fun P => ?_⟩
    · rw [hl, hp.countP_eq, List.countP_cons]
      simp [is1]
    · rw [hl, hp.countP_eq, List.countP_cons]
      split <;> omega

theorem del_good {tc : ByteArray → Prop} {l : List En} {key : ByteArray} (hg : Good tc l) : Good tc (del key l) :=
  ⟨fun e he => hg.iv e (mem_del he), fun e he => hg.sh e (mem_del he), fun e he => hg.un e (mem_del he)⟩

theorem del_ch {tc : ByteArray → Prop} {l : List En} {key : ByteArray} (hg : Good tc l) (hc : tc key) : Ch l (del key l) 0 := by
  refine ⟨fun P => ?_, fun P => ?_⟩
  · unfold del
    rw [List.countP_filter]
    refine List.countP_congr (fun x hx => ?_)
    cases hi : is1 x
    · simp
    · have hk : x.2.1 ≠ key := fun e => hg.un x hx hi (e ▸ hc)
      simp [keq_false hk]
  · unfold del
    rw [List.countP_filter]
    refine Nat.le_trans (List.countP_mono_left (fun x _ hx => ?_)) (Nat.le_add_right _ _)
    simp at hx
    exact hx.1

/-- A steady key has 1 from now on. -/
theorem put_one {w w' : World} {p : Nat} {t t' : Tr} {key : ByteArray} {c : En} (ht : Tb w p t) (h : PutP w w' p t t' key (.int .i64 1)) (hc0 : ent key t.toL = some c) (hv : is1 c = false) : t'.toL.countP is1 = t.toL.countP is1 + 1 ∧ t'.toL.length = t.toL.length := by
  rcases h.ls with ⟨c', hc', hl⟩ | ⟨hc', _⟩
  · rw [hc0] at hc'
    injection hc' with e
    subst e
    have hcm := (ent_some hc0).1
    refine ⟨?_, by rw [hl]; simp⟩
    rw [hl]
    have hnd := ht.nd
    unfold Tr.bs at hnd
    have key2 : ∀ l : List En, (blks l).Nodup → c ∈ l → (l.map (fun x => if x.1 = c.1 then (x.1, x.2.1, Value.int .i64 1) else x)).countP is1 = l.countP is1 + 1 := by
      intro l
      induction l with
      | nil => intro _ h; cases h
      | cons a l ih =>
        intro hn hm
        rw [blks_cons, List.nodup_cons] at hn
        rw [List.map_cons, List.countP_cons, List.countP_cons]
        by_cases hac : a.1 = c.1
        · have hal : a = c := by
            rcases List.mem_cons.1 hm with h1 | h1
            · exact h1.symm
            · exact absurd (List.mem_map.2 ⟨c, h1, rfl⟩) (hac ▸ hn.1)
          subst hal
          have hrest : l.map (fun x => if x.1 = a.1 then (x.1, x.2.1, Value.int .i64 1) else x) = l := by
            conv => rhs; rw [← List.map_id l]
            refine List.map_congr_left (fun x hx => ?_)
            have : x.1 ≠ a.1 := fun e => hn.1 (e ▸ List.mem_map.2 ⟨x, hx, rfl⟩)
            rw [if_neg this]
            rfl
          rw [hrest, if_pos rfl, hv]
          simp [is1]
        · rcases List.mem_cons.1 hm with h1 | h1
          · exact absurd (by rw [h1]) hac
          · rw [if_neg hac, ih hn.2 h1]
            omega
    exact key2 _ hnd hcm
  · rw [hc0] at hc'; cases hc'

/-- Ahead of the last key. -/
def ah (st : Bool) (last k : ByteArray) : Bool := if st then kl last k else true

/-- One step forward. -/
theorem step_cnt {l : List En} (hr : Rises l) {st : Bool} {last : ByteArray} (h0 : st = false → last = ⟨#[]⟩) {e : En} (hq : nx st last l = some e) (p : En → Bool) : l.countP (fun x => p x && ah st last x.2.1) = l.countP (fun x => p x && ah true e.2.1 x.2.1) + (if p e then 1 else 0) := by
  have hq' : l.find? (fun x => ah st last x.2.1) = some e := by
    unfold nx at hq
    cases st
    · rw [h0 rfl] at hq
      simp only [Bool.false_eq_true, if_false] at hq
      unfold geqE at hq
      rw [← hq]
      congr 1
      funext x
      simp [ah, kl_empty]
    · exact hq
  obtain ⟨he, l1, l2, rfl, has⟩ := List.find?_eq_some_iff_append.1 hq'
  have hlo := hr.lo
  have hhi : ∀ x ∈ l2, kl e.2.1 x.2.1 = true := (List.pairwise_cons.1 (List.pairwise_append.1 hr).2.1).1
  have a1 : l1.countP (fun x => p x && ah st last x.2.1) = 0 := by
    rw [List.countP_eq_zero]
    intro x hx
    have := has x hx
    simp at this
    simp [this]
  have a2 : l1.countP (fun x => p x && ah true e.2.1 x.2.1) = 0 := by
    rw [List.countP_eq_zero]
    intro x hx
    have := kl_asymm (hlo x hx)
    simp [ah, this]
  have b1 : l2.countP (fun x => p x && ah st last x.2.1) = l2.countP (fun x => p x && ah true e.2.1 x.2.1) := by
    refine List.countP_congr (fun x hx => ?_)
    have h1 : ah true e.2.1 x.2.1 = true := hhi x hx
    have h2 : ah st last x.2.1 = true := by
      unfold ah at he ⊢
      cases st
      · rfl
      · exact kl_trans he (hhi x hx)
    rw [h1, h2]
  rw [List.countP_append, List.countP_append, List.countP_cons, List.countP_cons, a1, a2, b1, he]
  have : ah true e.2.1 e.2.1 = false := kl_irrefl _
  rw [this]
  simp

end Go.Proofs.Ytkalppcekmlgbab
