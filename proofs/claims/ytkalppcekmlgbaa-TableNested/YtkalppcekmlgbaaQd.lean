import Derived.Test.YtkalppcekmlgbaaQc
namespace Go.Proofs.Ytkalppcekmlgbaa
open Go.RowKit

def val (p : Pr) : ByteArray × Value := (p.1, .int .i64 p.2)
/-- The table's tree and the document's list say the same. -/
def Mt (t : Tr) (l : List Pr) : Prop := t.toL.map (fun e => e.2) = l.map val
def RiseL (l : List Pr) : Prop := l.Pairwise (fun a b => kl a.1 b.1 = true)

theorem Mt.len {t : Tr} {l : List Pr} (h : Mt t l) : t.n = l.length := by
  have := congrArg List.length h
  simpa [Tr.n] using this
theorem Mt.rises {t : Tr} {l : List Pr} (h : Mt t l) (hr : Rises t.toL) : RiseL l := by
  have h1 : (t.toL.map (fun e => e.2)).Pairwise (fun a b => kl a.1 b.1 = true) := List.pairwise_map.2 hr
  rw [h] at h1
  exact List.pairwise_map.1 h1
theorem Mt.find {t : Tr} {l : List Pr} (h : Mt t l) (q : ByteArray → Bool) : (t.toL.find? (fun e => q e.2.1)).map (fun e => e.2) = (l.find? (fun p => q p.1)).map val := by
  have h1 : (t.toL.map (fun e : En => e.2)).find? (fun y : ByteArray × Value => q y.1) = (t.toL.find? (fun e => q e.2.1)).map (fun e => e.2) := List.find?_map
  have h2 : (l.map val).find? (fun y : ByteArray × Value => q y.1) = (l.find? (fun p => q p.1)).map val := List.find?_map
  rw [← h1, ← h2, h]

theorem plc_nil (key : ByteArray) : plc key [] = 0 := rfl
theorem plc_cons (key : ByteArray) (p : Pr) (l : List Pr) : plc key (p :: l) = if kl p.1 key = true then plc key l + 1 else 0 := by
  unfold plc
  cases h : kl p.1 key <;> simp [List.takeWhile, h]

theorem RiseL.tail {p : Pr} {l : List Pr} (h : RiseL (p :: l)) : RiseL l := (List.pairwise_cons.1 h).2
theorem RiseL.hi {p : Pr} {l : List Pr} (h : RiseL (p :: l)) : ∀ q ∈ l, kl p.1 q.1 = true := (List.pairwise_cons.1 h).1

theorem find_geq (key : ByteArray) : ∀ l : List Pr, l.find? (fun p => !kl p.1 key) = l[plc key l]?
  | [] => rfl
  | p :: l => by
    rw [List.find?_cons, plc_cons, find_geq key l]
    cases h : kl p.1 key <;> simp

theorem plc_zero {key : ByteArray} {l : List Pr} (h : ∀ q ∈ l, kl q.1 key = false) : plc key l = 0 := by
  cases l with
  | nil => rfl
  | cons p l => rw [plc_cons, h p (by simp)]; rfl

theorem find_gtr (key : ByteArray) : ∀ {l : List Pr}, RiseL l → l.find? (fun p => kl key p.1) = l[nxt key l]?
  | [], _ => rfl
  | p :: l, h => by
    have ih := find_gtr key h.tail
    cases h1 : kl p.1 key
    · have hp : plc key (p :: l) = 0 := by rw [plc_cons, h1]; rfl
      by_cases h2 : p.1 = key
      · have hn : nxt key (p :: l) = 1 := by unfold nxt; rw [hp]; simp [h2]
        rw [hn, List.find?_cons, show kl key p.1 = false from by rw [h2]; exact kl_irrefl _]
        have : l.find? (fun p => kl key p.1) = l[0]? := by
          cases l with
          | nil => rfl
          | cons q l => rw [List.find?_cons, show kl key q.1 = true from by rw [← h2]; exact h.hi q (by simp)]; rfl
        rw [this]
        rfl
      · have hn : nxt key (p :: l) = 0 := by unfold nxt; rw [hp]; simp [h2]
        have h3 : kl key p.1 = true := by
          cases h4 : kl key p.1
          · exact absurd (kl_tri h1 h4) h2
          · rfl
        rw [hn, List.find?_cons, h3]
        rfl
    · have hp : plc key (p :: l) = plc key l + 1 := by rw [plc_cons, h1]; rfl
      have hn : nxt key (p :: l) = nxt key l + 1 := by
        unfold nxt
        rw [hp]
        simp only [List.getElem?_cons_succ]
        split
        · split <;> rfl
        · rfl
      rw [hn, List.find?_cons, kl_asymm h1, ih]
      rfl

theorem find_eq (key : ByteArray) : ∀ {l : List Pr}, RiseL l → l.find? (fun p => p.1.toList == key.toList) = (match l[plc key l]? with | some e => if e.1 = key then some e else none | none => none)
  | [], _ => rfl
  | p :: l, h => by
    have ih := find_eq key h.tail
    cases h1 : kl p.1 key
    · have hp : plc key (p :: l) = 0 := by rw [plc_cons, h1]; rfl
      rw [hp, List.find?_cons]
      by_cases h2 : p.1 = key
      · simp [h2]
      · rw [keq_false h2]
        have h3 : kl key p.1 = true := by
          cases h4 : kl key p.1
          · exact absurd (kl_tri h1 h4) h2
          · rfl
        have : l.find? (fun p => p.1.toList == key.toList) = none := by
          rw [List.find?_eq_none]
          intro q hq
          have h5 := kl_trans h3 (h.hi q hq)
          rw [keq_false (kl_ne h5).symm]
          simp
        simp [this, h2]
    · have hp : plc key (p :: l) = plc key l + 1 := by rw [plc_cons, h1]; rfl
      rw [hp, List.find?_cons, keq_false (kl_ne h1), ih]
      rfl

theorem Mt.get {t : Tr} {l : List Pr} (h : Mt t l) (hr : Rises t.toL) (key : ByteArray) : getV key t.toL = bgetV key l := by
  have h1 := h.find (fun k => k.toList == key.toList)
  rw [find_eq key (h.rises hr)] at h1
  unfold getV bgetV
  rw [show t.toL.find? (fun e => e.2.1.toList == key.toList) = ent key t.toL from rfl] at h1
  cases e1 : ent key t.toL with
  | none =>
    rw [e1] at h1
    cases e2 : l[plc key l]? with
    | none => rfl
    | some p =>
      rw [e2] at h1
      by_cases hk : p.1 = key
      · simp [hk] at h1
      · simp [hk]
  | some e =>
    rw [e1] at h1
    cases e2 : l[plc key l]? with
    | none => rw [e2] at h1; simp at h1
    | some p =>
      rw [e2] at h1
      by_cases hk : p.1 = key
      · simp only [hk, if_true, Option.map_some, Option.some.injEq] at h1
        simp only [hk, if_true]
        rw [h1]
        rfl
      · simp [hk] at h1

theorem Mt.next {t : Tr} {l : List Pr} (h : Mt t l) (hr : Rises t.toL) (key : ByteArray) : nextV key t.toL = bnextV key l := by
  have h1 := h.find (fun k => kl key k)
  rw [find_gtr key (h.rises hr)] at h1
  unfold nextV bnextV
  rw [show t.toL.find? (fun e => kl key e.2.1) = gtrE key t.toL from rfl] at h1
  cases e1 : gtrE key t.toL with
  | none =>
    rw [e1] at h1
    cases e2 : l[nxt key l]? with
    | none => rfl
    | some p => rw [e2] at h1; simp at h1
  | some e =>
    rw [e1] at h1
    cases e2 : l[nxt key l]? with
    | none => rw [e2] at h1; simp at h1
    | some p =>
      rw [e2] at h1
      simp only [Option.map_some, Option.some.injEq] at h1
      show Value.tuple #[Value.string e.2.1, Value.bool true] = _
      rw [h1]
      rfl

theorem has_iff {key : ByteArray} {l : List Pr} (hr : RiseL l) : has key l = true ↔ ∃ p ∈ l, p.1 = key := by
  have := find_eq key hr
  unfold has
  cases e : l[plc key l]? with
  | none =>
    rw [e] at this
    simp only [Bool.false_eq_true, false_iff]
    rintro ⟨p, hp, rfl⟩
    have := List.find?_eq_none.1 this p hp
    simp at this
  | some p =>
    rw [e] at this
    simp only [decide_eq_true_eq]
    constructor
    · intro h; exact ⟨p, List.mem_of_getElem? e, h⟩
    · rintro ⟨q, hq, rfl⟩
      by_cases h2 : p.1 = q.1
      · exact h2
      · simp only [h2, if_false] at this
        have := List.find?_eq_none.1 this q hq
        simp at this

theorem set_map (key : ByteArray) (n : Int) : ∀ {l : List Pr}, RiseL l → has key l = true → l.set (plc key l) (key, n) = l.map (fun p => if p.1 = key then (p.1, n) else p)
  | [], _, h => by simp [has, plc_nil] at h
  | p :: l, hr, h => by
    cases h1 : kl p.1 key
    · have hp : plc key (p :: l) = 0 := by rw [plc_cons, h1]; rfl
      have hk : p.1 = key := by unfold has at h; rw [hp] at h; simpa using h
      rw [hp, List.set_cons_zero, List.map_cons, if_pos hk, hk]
      congr 1
      symm
      rw [show l = l.map id from by simp] 
      rw [List.map_map]
      apply List.map_congr_left
      intro q hq
      have := (kl_ne (hr.hi q hq)).symm
      simp only [Function.comp, id]
      rw [if_neg (fun e => this (by rw [e, hk]))]
    · have hp : plc key (p :: l) = plc key l + 1 := by rw [plc_cons, h1]; rfl
      have h2 : has key l = true := by
        unfold has at h ⊢
        rw [hp] at h
        simpa using h
      rw [hp, List.set_cons_succ, List.map_cons, if_neg (kl_ne h1), set_map key n hr.tail h2]

theorem cut_filter (key : ByteArray) : ∀ {l : List Pr}, RiseL l → bcut key l = l.filter (fun p => !(p.1.toList == key.toList))
  | [], _ => by simp [bcut, has, plc_nil]
  | p :: l, hr => by
    have ih := cut_filter key hr.tail
    cases h1 : kl p.1 key
    · have hp : plc key (p :: l) = 0 := by rw [plc_cons, h1]; rfl
      by_cases hk : p.1 = key
      · have hh : has key (p :: l) = true := by unfold has; rw [hp]; simpa using hk
        rw [bcut, hh, hp]
        simp only [if_true, List.take_zero, List.nil_append, Nat.zero_add, List.drop_succ_cons, List.drop_zero]
        rw [List.filter_cons, keq_iff.2 hk]
        simp only [Bool.not_true, Bool.false_eq_true, if_false]
        symm
        rw [List.filter_eq_self]
        intro q hq
        have := (kl_ne (hr.hi q hq)).symm
        rw [keq_false (fun e => this (by rw [e, hk]))]
        rfl
      · have hh : has key (p :: l) = false := by unfold has; rw [hp]; simpa using hk
        have h3 : kl key p.1 = true := by
          cases h4 : kl key p.1
          · exact absurd (kl_tri h1 h4) hk
          · rfl
        rw [bcut, hh]
        symm
        simp only [Bool.false_eq_true, if_false]
        rw [List.filter_eq_self]
        intro q hq
        rcases List.mem_cons.1 hq with e | hq
        · rw [e, keq_false hk]; rfl
        · have := kl_trans h3 (hr.hi q hq)
          rw [keq_false (kl_ne this).symm]; rfl
    · have hp : plc key (p :: l) = plc key l + 1 := by rw [plc_cons, h1]; rfl
      have h2 : has key (p :: l) = has key l := by unfold has; rw [hp]; simp
      rw [List.filter_cons, keq_false (kl_ne h1)]
      simp only [Bool.not_false, if_true]
      rw [← ih]
      unfold bcut
      rw [h2, hp]
      cases has key l
      · rfl
      · simp

theorem take_plc (key : ByteArray) : ∀ l : List Pr, l.take (plc key l) = l.takeWhile (fun p => kl p.1 key) ∧ l.drop (plc key l) = l.dropWhile (fun p => kl p.1 key)
  | [] => ⟨rfl, rfl⟩
  | p :: l => by
    obtain ⟨h1, h2⟩ := take_plc key l
    rw [plc_cons]
    cases h : kl p.1 key
    · simp [List.takeWhile, List.dropWhile, h]
    · simp [List.takeWhile, List.dropWhile, h, h1, h2]

theorem tw_congr {α : Type} {p q : α → Bool} : ∀ {l : List α}, (∀ x ∈ l, p x = q x) → l.takeWhile p = l.takeWhile q ∧ l.dropWhile p = l.dropWhile q
  | [], _ => ⟨rfl, rfl⟩
  | a :: l, h => by
    obtain ⟨h1, h2⟩ := tw_congr (l := l) (fun x hx => h x (by simp [hx]))
    have ha := h a (by simp)
    simp only [List.takeWhile, List.dropWhile, ← ha, h1, h2, and_self]

theorem ent_has {t : Tr} {l : List Pr} (h : Mt t l) (hr : Rises t.toL) (key : ByteArray) : (ent key t.toL).isSome = has key l := by
  have h1 := h.find (fun k => k.toList == key.toList)
  rw [find_eq key (h.rises hr)] at h1
  rw [show t.toL.find? (fun e => e.2.1.toList == key.toList) = ent key t.toL from rfl] at h1
  have h2 := congrArg Option.isSome h1
  simp only [Option.isSome_map] at h2
  rw [h2]
  unfold has
  cases l[plc key l]? with
  | none => rfl
  | some p => by_cases hk : p.1 = key <;> simp [hk]

theorem same_blk {l : List En} {a b : En} (hn : (blks l).Nodup) (ha : a ∈ l) (hb : b ∈ l) (h : a.1 = b.1) : a = b := by
  induction l with
  | nil => cases ha
  | cons c l ih =>
    simp only [blks_cons, List.nodup_cons] at hn
    rcases List.mem_cons.1 ha with h1 | h1 <;> rcases List.mem_cons.1 hb with h2 | h2
    · rw [h1, h2]
    · exact absurd (List.mem_map.2 ⟨b, h2, by rw [← h, h1]⟩) hn.1
    · exact absurd (List.mem_map.2 ⟨a, h1, by rw [h, h2]⟩) hn.1
    · exact ih hn.2 h1 h2

theorem Mt.put {w w' : World} {p : Nat} {t t' : Tr} {key : ByteArray} {n : Int} {l : List Pr} (h : Mt t l) (ht : Tb w p t) (hp : PutP w w' p t t' key (.int .i64 n)) : Mt t' (bput key n l) := by
  have hr := h.rises ht.rs
  have hh := ent_has h ht.rs key
  rcases hp.ls with ⟨e, he, hl⟩ | ⟨he, m, hl⟩
  · rw [he] at hh
    have hh' : has key l = true := hh.symm
    unfold Mt bput
    rw [hh', if_pos rfl, set_map key n hr hh', hl, List.map_map, List.map_map]
    have e1 : t.toL.map ((fun e => e.2) ∘ fun x => if x.1 = e.1 then (x.1, x.2.1, Value.int .i64 n) else x) = (t.toL.map (fun e => e.2)).map (fun y => if y.1 = key then (y.1, Value.int .i64 n) else y) := by
      rw [List.map_map]
      apply List.map_congr_left
      intro x hx
      simp only [Function.comp]
      obtain ⟨em, ek⟩ := ent_some he
      by_cases hb : x.1 = e.1
      · have := same_blk ht.nd hx em hb
        rw [if_pos hb, if_pos (by rw [this]; exact ek)]
      · rw [if_neg hb, if_neg (fun hk => hb (by rw [rises_blk_key ht.rs hx em (hk.trans ek.symm)]))]
    rw [e1, h, List.map_map]
    apply List.map_congr_left
    intro q _
    simp only [Function.comp, val]
    by_cases hk : q.1 = key <;> simp [hk]
  · rw [he] at hh
    have hh' : has key l = false := hh.symm
    unfold Mt bput
    rw [hh', hl]
    simp only [Bool.false_eq_true, if_false]
    obtain ⟨p1, p2⟩ := take_plc key l
    rw [p1, p2]
    unfold ins
    have hne := ent_none he
    have hne' : ∀ q ∈ l, q.1 ≠ key := by
      intro q hq e
      have := (has_iff hr).2 ⟨q, hq, e⟩
      rw [hh'] at this
      cases this
    have c1 : ∀ k : ByteArray, k ≠ key → (!kl key k) = kl k key := by
      intro k hk
      cases h1 : kl k key
      · cases h2 : kl key k
        · exact absurd (kl_tri h1 h2) hk
        · rfl
      · rw [kl_asymm h1]; rfl
    obtain ⟨q1, q2⟩ := tw_congr (l := t.toL) (p := fun e => !kl key e.2.1) (q := fun e => kl e.2.1 key) (fun x hx => c1 _ (hne x hx))
    rw [show t.toL.takeWhile (fun e => !kl ((m, key, Value.int .i64 n) : En).2.1 e.2.1) = _ from q1, show t.toL.dropWhile (fun e => !kl ((m, key, Value.int .i64 n) : En).2.1 e.2.1) = _ from q2]
    have m1 : (t.toL.map (fun e : En => e.2)).takeWhile (fun y : ByteArray × Value => kl y.1 key) = (t.toL.takeWhile (fun e => kl e.2.1 key)).map (fun e => e.2) := List.takeWhile_map
    have m2 : (t.toL.map (fun e : En => e.2)).dropWhile (fun y : ByteArray × Value => kl y.1 key) = (t.toL.dropWhile (fun e => kl e.2.1 key)).map (fun e => e.2) := List.dropWhile_map
    have m3 : (l.map val).takeWhile (fun y : ByteArray × Value => kl y.1 key) = (l.takeWhile (fun p => kl p.1 key)).map val := List.takeWhile_map
    have m4 : (l.map val).dropWhile (fun y : ByteArray × Value => kl y.1 key) = (l.dropWhile (fun p => kl p.1 key)).map val := List.dropWhile_map
    rw [h] at m1 m2
    rw [List.map_append, List.map_cons, List.map_append, List.map_cons, ← m1, ← m2, m3, m4]
    rfl

theorem Mt.del {w w' : World} {p : Nat} {t t' : Tr} {key : ByteArray} {l : List Pr} (h : Mt t l) (hr : Rises t.toL) (hp : DelP w w' p t t' key) : Mt t' (bcut key l) := by
  unfold Mt
  rw [cut_filter key (h.rises hr), hp.ls]
  unfold Ytkalppcekmlgbaa.del
  have m1 : (t.toL.map (fun e : En => e.2)).filter (fun y : ByteArray × Value => !(y.1.toList == key.toList)) = (t.toL.filter (fun e => !(e.2.1.toList == key.toList))).map (fun e => e.2) := List.filter_map
  have m2 : (l.map val).filter (fun y : ByteArray × Value => !(y.1.toList == key.toList)) = (l.filter (fun p => !(p.1.toList == key.toList))).map val := List.filter_map
  rw [h] at m1
  rw [← m1, m2]

theorem bcut_none {key : ByteArray} {l : List Pr} (h : has key l = false) : bcut key l = l := by rw [bcut, h]; rfl
theorem bput_len (key : ByteArray) (n : Int) (l : List Pr) : (bput key n l).length ≤ l.length + 1 := by
  unfold bput
  split
  · simp
  · simp; have := plc_le key l; omega
theorem bcut_len (key : ByteArray) (l : List Pr) : (bcut key l).length ≤ l.length := by
  unfold bcut
  split
  · simp; have := plc_le key l; omega
  · exact Nat.le_refl _

theorem countP_set {α : Type} (p : α → Bool) (x : α) : ∀ (l : List α) (i : Nat), (l.set i x).countP p ≤ l.countP p + 1
  | [], _ => by simp
  | a :: l, 0 => by simp only [List.set_cons_zero, List.countP_cons]; split <;> omega
  | a :: l, i + 1 => by have := countP_set p x l i; simp only [List.set_cons_succ, List.countP_cons]; omega
theorem bput_cnt (key : ByteArray) (n : Int) (l : List Pr) (p : ByteArray → Bool) : (bput key n l).countP (fun e => p e.1) ≤ l.countP (fun e => p e.1) + 1 := by
  unfold bput
  split
  · exact countP_set _ _ _ _
  · have e : l.countP (fun e => p e.1) = (l.take (plc key l)).countP (fun e => p e.1) + (l.drop (plc key l)).countP (fun e => p e.1) := by rw [← List.countP_append, List.take_append_drop]
    rw [List.countP_append, List.countP_cons, e]
    split <;> omega
theorem bcut_cnt (key : ByteArray) (l : List Pr) (p : ByteArray → Bool) : (bcut key l).countP (fun e => p e.1) ≤ l.countP (fun e => p e.1) + 1 := by
  unfold bcut
  split
  · have e : l.countP (fun e => p e.1) = (l.take (plc key l)).countP (fun e => p e.1) + (l.drop (plc key l)).countP (fun e => p e.1) := by rw [← List.countP_append, List.take_append_drop]
    have h : (l.drop (plc key l + 1)).countP (fun e => p e.1) ≤ (l.drop (plc key l)).countP (fun e => p e.1) := by
      refine List.Sublist.countP_le ?_
      rw [← List.drop_drop]
      exact List.drop_sublist _ _
    rw [List.countP_append, e]
    omega
  · omega

end Go.Proofs.Ytkalppcekmlgbaa
