import Derived.Test.YthjggbcppgbdoabK09
namespace Go.Proofs.Ythjggbcppgbdoab
open Go.RowKit

/-- What a store has, as the document lists it. -/
def vw (f : Nat → Sd) (l : List En) : List Pl := l.map (fun e => (e.2.1, f (bk e.2.2)))

theorem ri_app {key : ByteArray} {V1 V2 : List Pl} (h1 : ∀ e ∈ V1, kl e.1 key = true) (h2 : ∀ e ∈ V2, kl e.1 key = false) : ri key (V1 ++ V2) = V1.length := by
  unfold ri
  rw [(tw_all V2 h1).1]
  cases V2 with
  | nil => simp
  | cons a V => simp [h2 a (by simp)]

theorem at_app {V1 V2 : List Pl} {e : Pl} : (V1 ++ e :: V2)[V1.length]? = some e := by simp

/-- Put of a new key. -/
theorem put_new {key : ByteArray} {k : Int} {V1 V2 : List Pl} (h1 : ∀ e ∈ V1, kl e.1 key = true) (h2 : ∀ e ∈ V2, kl key e.1 = true) : rputL key k (V1 ++ V2) = V1 ++ (key, ⟨0, k, false, true, true, true⟩) :: V2 ∧ rs key (V1 ++ V2) = false := by
  have hr : ri key (V1 ++ V2) = V1.length := ri_app h1 (fun e he => kl_asymm (h2 e he))
  have hs : rs key (V1 ++ V2) = false := by
    unfold rs
    rw [hr]
    cases V2 with
    | nil => simp
    | cons a V =>
      rw [at_app]
      simp [(kl_ne (h2 a (by simp))).symm]
  refine ⟨?_, hs⟩
  unfold rputL
  rw [hs, hr]
  cases (V1 ++ V2)[V1.length]? <;> simp
theorem ri_has {key : ByteArray} {s : Sd} {V1 V2 : List Pl} (h1 : ∀ e ∈ V1, kl e.1 key = true) (h2 : ∀ e ∈ V2, kl key e.1 = true) : ri key (V1 ++ (key, s) :: V2) = V1.length ∧ rs key (V1 ++ (key, s) :: V2) = true := by
  have hr : ri key (V1 ++ (key, s) :: V2) = V1.length := ri_app h1 (fun e he => by
    rcases List.mem_cons.1 he with rfl | h
    · exact kl_irrefl _
    · exact kl_asymm (h2 e h))
  refine ⟨hr, ?_⟩
  unfold rs
  rw [hr, at_app]
  simp
theorem put_has {key : ByteArray} {k : Int} {s : Sd} {V1 V2 : List Pl} (h1 : ∀ e ∈ V1, kl e.1 key = true) (h2 : ∀ e ∈ V2, kl key e.1 = true) : rputL key k (V1 ++ (key, s) :: V2) = V1 ++ (key, s.lay k true) :: V2 := by
  obtain ⟨hr, hs⟩ := ri_has (s := s) h1 h2
  unfold rputL
  rw [hs, hr, at_app]
  simp
theorem del_not {key : ByteArray} {m : Bool} {V : List Pl} (hs : rs key V = false) : rdelL key m V = V := by
  unfold rdelL
  cases V[ri key V]? with
  | none => rfl
  | some e => simp [hs]
theorem del_nil {key : ByteArray} {m : Bool} {s : Sd} {V1 V2 : List Pl} (h1 : ∀ e ∈ V1, kl e.1 key = true) (h2 : ∀ e ∈ V2, kl key e.1 = true) (hh : s.has s.r = false) : rdelL key m (V1 ++ (key, s) :: V2) = V1 ++ (key, s) :: V2 := by
  obtain ⟨hr, hs⟩ := ri_has (s := s) h1 h2
  unfold rdelL
  rw [hr, at_app]
  simp [hh]
theorem del_has {key : ByteArray} {m : Bool} {s : Sd} {V1 V2 : List Pl} (h1 : ∀ e ∈ V1, kl e.1 key = true) (h2 : ∀ e ∈ V2, kl key e.1 = true) (hh : s.has s.r = true) : rdelL key m (V1 ++ (key, s) :: V2) = if m = true then V1 ++ (key, s.lay 0 false) :: V2 else (V1 ++ (key, s.lay 0 false) :: V2).filter keepP := by
  obtain ⟨hr, hs⟩ := ri_has (s := s) h1 h2
  unfold rdelL
  rw [hs, hr, at_app]
  simp [hh]
theorem get_has {key : ByteArray} {s : Sd} {V1 V2 : List Pl} (h1 : ∀ e ∈ V1, kl e.1 key = true) (h2 : ∀ e ∈ V2, kl key e.1 = true) : rgetV key (V1 ++ (key, s) :: V2) = if s.has s.r = true then (s.copy s.r, true) else (0, false) := by
  obtain ⟨hr, hs⟩ := ri_has (s := s) h1 h2
  unfold rgetV
  rw [hs, hr, at_app]
  simp
theorem get_not {key : ByteArray} {V : List Pl} (hs : rs key V = false) : rgetV key V = (0, false) := by
  unfold rgetV
  cases V[ri key V]? with
  | none => rfl
  | some e => simp [hs]

/-- A rising list about a key that it has. -/
theorem split_has {key : ByteArray} {l : List En} {e0 : En} (hr : Rises l) (h : ent key l = some e0) : ∃ l1 l2, l = l1 ++ e0 :: l2 ∧ e0.2.1 = key ∧ (∀ e ∈ l1, kl e.2.1 key = true) ∧ (∀ e ∈ l2, kl key e.2.1 = true) := by
  obtain ⟨hm, hk⟩ := ent_some h
  obtain ⟨l1, l2, rfl⟩ := List.append_of_mem hm
  refine ⟨l1, l2, rfl, hk, fun e he => ?_, fun e he => ?_⟩
  · rw [← hk]; exact (List.pairwise_append.1 hr).2.2 e he e0 (by simp)
  · rw [← hk]; exact (List.pairwise_cons.1 (List.pairwise_append.1 hr).2.1).1 e he
theorem tw_mem {α : Type} {p : α → Bool} : ∀ {l : List α} {e : α}, e ∈ l.takeWhile p → p e = true ∧ e ∈ l
  | [], _, h => by cases h
  | a :: l, e, h => by
    rw [List.takeWhile_cons] at h
    cases hp : p a
    · simp [hp] at h
    · simp only [hp, if_true] at h
      rcases List.mem_cons.1 h with rfl | h1
      · exact ⟨hp, by simp⟩
      · have := tw_mem h1
        exact ⟨this.1, by simp [this.2]⟩
theorem dw_all {α : Type} {p : α → Bool} : ∀ {l : List α}, (∀ a b : α, ∀ l1 l2 l3 : List α, l = l1 ++ a :: (l2 ++ b :: l3) → p a = false → p b = false) → ∀ e ∈ l.dropWhile p, p e = false
  | [], _, e, he => by cases he
  | a :: l, h, e, he => by
    rw [List.dropWhile_cons] at he
    cases hp : p a
    · simp only [hp, Bool.false_eq_true, if_false] at he
      rcases List.mem_cons.1 he with rfl | h1
      · exact hp
      · obtain ⟨l2, l3, rfl⟩ := List.append_of_mem h1
        exact h a e [] l2 l3 rfl hp
    · simp only [hp, if_true] at he
      exact dw_all (fun a' b l1 l2 l3 e1 => h a' b (a :: l1) l2 l3 (by rw [e1]; rfl)) e he
/-- A rising list about a key that it hasn't. -/
theorem split_not {key : ByteArray} {l : List En} (hr : Rises l) (h : ent key l = none) : ∃ l1 l2, l = l1 ++ l2 ∧ (∀ n v, ins (n, key, v) l = l1 ++ (n, key, v) :: l2) ∧ (∀ e ∈ l1, kl e.2.1 key = true) ∧ (∀ e ∈ l2, kl key e.2.1 = true) := by
  have hne := ent_none h
  refine ⟨l.takeWhile (fun e => !kl key e.2.1), l.dropWhile (fun e => !kl key e.2.1), (List.takeWhile_append_dropWhile).symm, fun _ _ => rfl, fun e he => ?_, fun e he => ?_⟩
  · have h1 := (tw_mem he).1
    have h2 : kl key e.2.1 = false := by simpa using h1
    cases h3 : kl e.2.1 key
    · exact absurd (kl_tri h3 h2) (hne e (tw_mem he).2)
    · rfl
  · have := dw_all (p := fun e : En => !kl key e.2.1) (l := l) (fun a b l1 l2 l3 e1 ha => by
      have ha' : kl key a.2.1 = true := by simpa using ha
      rw [e1] at hr
      have h2 : kl a.2.1 b.2.1 = true := (List.pairwise_cons.1 (List.pairwise_append.1 hr).2.1).1 b (by simp)
      simp [kl_trans ha' h2]) e he
    simpa using this

/-- The blocks of a store. -/
def fpS (p : Nat) (t : Tr) (j : Nat) : Prop := j = p ∨ j ∈ t.bs ∨ ∃ e ∈ t.toL, j = bk e.2.2

/-- What has nothing is zero. -/
def Zr (s : Sd) : Prop := (s.h0 = false → s.c0 = 0) ∧ (s.h1 = false → s.c1 = 0)

theorem zr_lay {s : Sd} (h : Zr s) (v : Int) (q : Bool) (hq : q = false → v = 0) : Zr (s.lay v q) := by
  obtain ⟨c0, c1, h0, h1, r, w⟩ := s
  cases w
  · exact ⟨hq, h.2⟩
  · exact ⟨h.1, hq⟩

theorem all_put {P : Pl → Prop} {V1 V2 : List Pl} {e : Pl} (h : ∀ e ∈ V1 ++ V2, P e) (he : P e) : ∀ x ∈ V1 ++ e :: V2, P x := by
  intro x hx
  rcases List.mem_append.1 hx with h1 | h1
  · exact h x (by simp [h1])
  · rcases List.mem_cons.1 h1 with rfl | h2
    · exact he
    · exact h x (by simp [h2])
theorem all_cut {P : Pl → Prop} {V1 V2 : List Pl} {e : Pl} (h : ∀ x ∈ V1 ++ e :: V2, P x) : ∀ x ∈ V1 ++ V2, P x := by
  intro x hx
  rcases List.mem_append.1 hx with h1 | h1 <;> exact h x (by simp [h1])

/-- A store that tells V. -/
structure ZV (w : World) (p : Nat) (V : List Pl) (m : Bool) (F : Nat → Prop) : Prop where
  ex : ∃ t f, ZS w p t f ((V.filter keepP).length : Nat) m ∧ vw f t.toL = V ∧ (∀ j, fpS p t j → F j)
  calm : m = false → ∀ e ∈ V, keepP e = true
  zr : ∀ e ∈ V, Zr e.2

/-- What a call may have added. -/
def grw (F : Nat → Prop) (w w' : World) (j : Nat) : Prop := F j ∨ (w.heap.size ≤ j ∧ j < w'.heap.size)

theorem vw_upd {f : Nat → Sd} {b : Nat} {s : Sd} {l : List En} (h : ∀ e ∈ l, bk e.2.2 ≠ b) : vw (updF f b s) l = vw f l := by
  unfold vw
  refine List.map_congr_left (fun e he => ?_)
  unfold updF
  rw [if_neg (h e he)]

theorem lay_keep (s : Sd) (v : Int) (h : Bool) : (s.lay v h).has (s.lay v h).r = h := by
  obtain ⟨c0, c1, h0, h1, r, w⟩ := s
  cases w <;> rfl

theorem filt_len (V1 V2 : List Pl) (e : Pl) : (((V1 ++ e :: V2).filter keepP).length : Nat) = ((V1 ++ V2).filter keepP).length + (if keepP e = true then 1 else 0) := by
  rw [List.filter_append, List.filter_append, List.filter_cons]
  cases h : keepP e
  · simp
  · simp; omega

theorem ZV.len {V : List Pl} {t : Tr} {f : Nat → Sd} (h : vw f t.toL = V) : t.n = V.length := by rw [← h]; unfold Tr.n vw; simp

theorem ZV.calm_put {V1 V2 : List Pl} {m : Bool} {e : Pl} (h : m = false → ∀ e ∈ V1 ++ V2, keepP e = true) (he : keepP e = true) : m = false → ∀ x ∈ V1 ++ e :: V2, keepP x = true := by
  intro hm x hx
  rcases List.mem_append.1 hx with h1 | h1
  · exact h hm x (by simp [h1])
  · rcases List.mem_cons.1 h1 with rfl | h2
    · exact he
    · exact h hm x (by simp [h2])

theorem vput (p : Nat) (key : ByteArray) (v : Int) (V : List Pl) (m : Bool) (F : Nat → Prop) (w : World) (h : ZV w p V m F) (hl : V.length ≤ 500000) (hk : key.size ≤ 281474976710656) :
    Calls Try.prog 10 #[.pointer (some ⟨p, 0, none⟩), .string key, .int .i64 v] w fun x w' => x = .returned (.tuple #[]) ∧ ZV w' p (rputL key v V) m (grw F w w') ∧ Kept F w w' := by
  obtain ⟨⟨t, f, hz, hv, hF⟩, hcalm, hzr⟩ := h
  have hn : t.n = V.length := ZV.len hv
  have hc : (0 : Int) ≤ ((V.filter keepP).length : Nat) ∧ (((V.filter keepP).length : Nat) : Int) ≤ 1000000 := ⟨by omega, by have := List.length_filter_le keepP V; omega⟩
  cases hq : ent key t.toL with
  | none =>
    refine (sput_new p key v t f _ m w hz hc (by omega) hk hq).mono ?_
    rintro x w' ⟨rfl, t', b, n, hb, hl', hz', hk', hnw⟩
    obtain ⟨l1, l2, e1, e2, k1, k2⟩ := split_not hz.tb.rs hq
    have hlt := (hz.lt).2.2
    have hne : ∀ e ∈ t.toL, bk e.2.2 ≠ b := fun e he e3 => by have := hlt e he; omega
    have hV : V = vw f l1 ++ vw f l2 := by rw [← hv, e1]; simp [vw]
    have hj1 : ∀ e ∈ vw f l1, kl e.1 key = true := fun e he => by obtain ⟨x, hx, rfl⟩ := List.mem_map.1 he; exact k1 x hx
    have hj2 : ∀ e ∈ vw f l2, kl key e.1 = true := fun e he => by obtain ⟨x, hx, rfl⟩ := List.mem_map.1 he; exact k2 x hx
    have hP : rputL key v V = vw f l1 ++ (key, ⟨0, v, false, true, true, true⟩) :: vw f l2 := by rw [hV]; exact (put_new hj1 hj2).1
    have hview : vw (updF (updF f b s0) b (s0.lay v true)) t'.toL = rputL key v V := by
      rw [hP, hl', e2]
      unfold vw
      rw [List.map_append, List.map_cons]
      have q : ∀ l : List En, (∀ e ∈ l, e ∈ t.toL) → l.map (fun e => (e.2.1, updF (updF f b s0) b (s0.lay v true) (bk e.2.2))) = l.map (fun e => (e.2.1, f (bk e.2.2))) := fun l hl2 => by
        refine List.map_congr_left (fun e he => ?_)
        unfold updF
        rw [if_neg (hne e (hl2 e he)), if_neg (hne e (hl2 e he))]
      rw [q l1 (fun e he => by rw [e1]; simp [he]), q l2 (fun e he => by rw [e1]; simp [he])]
      simp [bk, updF, Sd.lay]
    refine ⟨rfl, ⟨⟨t', _, ?_, hview, ?_⟩, ?_, ?_⟩, hk'.mono (fun j _ e => hF j (e.elim .inl (fun e => .inr (.inl e))))⟩
    · rw [hP, filt_len, if_pos (show keepP (key, (⟨0, v, false, true, true, true⟩ : Sd)) = true from rfl), ← hV]
      exact hz'
    · rintro j (rfl | hj | ⟨e, he, rfl⟩)
      · exact .inl (hF _ (.inl rfl))
      · rcases hnw j hj with h1 | h1
        · exact .inl (hF j (.inr (.inl h1)))
        · exact .inr ⟨h1, hz'.lt.2.1 j hj⟩
      · have hlt' := hz'.lt.2.2 e he
        rw [hl'] at he
        rcases List.mem_cons.1 ((ins_perm _ _).mem_iff.1 he) with rfl | h1
        · exact .inr ⟨hb, hlt'⟩
        · exact .inl (hF _ (.inr (.inr ⟨e, h1, rfl⟩)))
    · rw [hP]
      exact ZV.calm_put (by rw [← hV]; exact hcalm) rfl
    · rw [hP]
      exact all_put (by rw [← hV]; exact hzr) ⟨fun _ => rfl, fun e => by cases e⟩
  | some e0 =>
    obtain ⟨b, hb, hs⟩ := hz.sl e0 (ent_some hq).1
    refine (sput_has p key v t f _ m w e0 b hz hc hq hb).mono ?_
    rintro x w' ⟨rfl, hz', hk'⟩
    obtain ⟨l1, l2, e1, e2, k1, k2⟩ := split_has hz.tb.rs hq
    have hm0 := (ent_some hq).1
    have hnd := nd_inj hz.nd
    have hbk : bk e0.2.2 = b := by rw [hb]; rfl
    have hne : ∀ e ∈ l1 ++ l2, bk e.2.2 ≠ b := fun e he e3 => by
      have hm : e ∈ t.toL := by rw [e1]; rcases List.mem_append.1 he with h | h <;> simp [h]
      obtain ⟨b1, q1, -⟩ := hz.sl e hm
      have e4 : e = e0 := hnd e hm e0 hm0 (by rw [q1] at e3 ⊢; rw [hb]; have : b1 = b := e3; rw [this])
      rw [e4] at he
      rcases List.mem_append.1 he with h | h
      · have := k1 _ h; rw [e2, kl_irrefl] at this; cases this
      · have := k2 _ h; rw [e2, kl_irrefl] at this; cases this
    have hV : V = vw f l1 ++ (key, f b) :: vw f l2 := by rw [← hv, e1]; simp [vw, e2, hbk]
    have hj1 : ∀ e ∈ vw f l1, kl e.1 key = true := fun e he => by obtain ⟨x, hx, rfl⟩ := List.mem_map.1 he; exact k1 x hx
    have hj2 : ∀ e ∈ vw f l2, kl key e.1 = true := fun e he => by obtain ⟨x, hx, rfl⟩ := List.mem_map.1 he; exact k2 x hx
    have hP : rputL key v V = vw f l1 ++ (key, (f b).lay v true) :: vw f l2 := by rw [hV]; exact put_has hj1 hj2
    have hview : vw (updF f b ((f b).lay v true)) t.toL = rputL key v V := by
      rw [hP, e1]
      have q1 := vw_upd (f := f) (b := b) (s := (f b).lay v true) (l := l1) (fun e he => hne e (by simp [he]))
      have q2 := vw_upd (f := f) (b := b) (s := (f b).lay v true) (l := l2) (fun e he => hne e (by simp [he]))
      rw [← q1, ← q2]
      simp [vw, e2, hbk, updF]
    have hkl : keepP (key, (f b).lay v true) = true := lay_keep _ _ _
    refine ⟨rfl, ⟨⟨t, _, ?_, hview, fun j hj => .inl (hF j hj)⟩, ?_, ?_⟩, hk'.mono (fun j _ e => hF j (e.elim .inl (fun e => .inr (.inr ⟨e0, hm0, by rw [hbk]; exact e⟩))))⟩
    · rw [hP, filt_len, if_pos hkl]
      rw [hV, filt_len] at hz'
      have q : keepP (key, f b) = (f b).has (f b).r := rfl
      rw [q] at hz'
      cases hh : (f b).has (f b).r
      · simp only [hh, Bool.false_eq_true, if_false] at hz'
        exact hz'
      · simp only [hh, if_true] at hz'
        exact hz'
    · rw [hP]
      refine ZV.calm_put (fun hm e he => hcalm hm e ?_) hkl
      rw [hV]
      rcases List.mem_append.1 he with h | h <;> simp [h]
    · rw [hP]
      rw [hV] at hzr
      exact all_put (all_cut hzr) (zr_lay (hzr (key, f b) (by simp)) v true (fun e => by cases e))

end Go.Proofs.Ythjggbcppgbdoab

namespace Go.Proofs.Ythjggbcppgbdoab
open Go.RowKit

theorem ZV.below {w w' : World} {p : Nat} {V : List Pl} {m : Bool} {F : Nat → Prop} (h : ZV w p V m F) (hb : Below w.heap.size w w') : ZV w' p V m F := by
  obtain ⟨⟨t, f, hz, hv, hF⟩, h1, h2⟩ := h
  exact ⟨⟨t, f, hz.below hb, hv, hF⟩, h1, h2⟩
theorem ZV.mono {w : World} {p : Nat} {V : List Pl} {m : Bool} {F G : Nat → Prop} (h : ZV w p V m F) (hg : ∀ j, F j → G j) : ZV w p V m G := by
  obtain ⟨⟨t, f, hz, hv, hF⟩, h1, h2⟩ := h
  exact ⟨⟨t, f, hz, hv, fun j hj => hg j (hF j hj)⟩, h1, h2⟩
theorem ZV.kept {w w' : World} {p : Nat} {V : List Pl} {m : Bool} {F S : Nat → Prop} (h : ZV w p V m F) (hk : Kept S w w') (hs : ∀ j, F j → ¬ S j) : ZV w' p V m F := by
  obtain ⟨⟨t, f, hz, hv, hF⟩, h1, h2⟩ := h
  exact ⟨⟨t, f, hz.kept hk (hs _ (hF _ (.inl rfl))) (fun i hi => hs _ (hF _ (.inr (.inl hi)))) (fun e he => hs _ (hF _ (.inr (.inr ⟨e, he, rfl⟩)))), hv, hF⟩, h1, h2⟩

theorem del_split {key : ByteArray} {l1 l2 : List En} {e0 : En} (hk : e0.2.1 = key) (h1 : ∀ e ∈ l1, kl e.2.1 key = true) (h2 : ∀ e ∈ l2, kl key e.2.1 = true) : del key (l1 ++ e0 :: l2) = l1 ++ l2 := by
  unfold del
  rw [List.filter_append, List.filter_cons]
  have e1 : (!(e0.2.1.toList == key.toList)) = false := by rw [hk]; simp
  have q1 : l1.filter (fun e => !(e.2.1.toList == key.toList)) = l1 := List.filter_eq_self.2 (fun e he => by rw [keq_false (kl_ne (h1 e he))]; rfl)
  have q2 : l2.filter (fun e => !(e.2.1.toList == key.toList)) = l2 := List.filter_eq_self.2 (fun e he => by rw [keq_false (kl_ne (h2 e he)).symm]; rfl)
  rw [e1, q1, q2]
  simp

theorem vdel (p : Nat) (key : ByteArray) (V : List Pl) (m : Bool) (F : Nat → Prop) (w : World) (h : ZV w p V m F) (hl : V.length ≤ 500000) :
    Calls Try.prog 17 #[.pointer (some ⟨p, 0, none⟩), .string key] w fun x w' => x = .returned (.tuple #[]) ∧ ZV w' p (rdelL key m V) m F ∧ Kept F w w' := by
  have h' := h
  obtain ⟨⟨t, f, hz, hv, hF⟩, hcalm, hzr⟩ := h
  have hn : t.n = V.length := ZV.len hv
  have hc : (0 : Int) ≤ ((V.filter keepP).length : Nat) ∧ (((V.filter keepP).length : Nat) : Int) ≤ 1000000 := ⟨by omega, by have := List.length_filter_le keepP V; omega⟩
  cases hq : ent key t.toL with
  | none =>
    refine (sdel_no p key t f _ m w hz (.inl hq)).mono ?_
    rintro x w' ⟨rfl, hb⟩
    obtain ⟨l1, l2, e1, e2, k1, k2⟩ := split_not hz.tb.rs hq
    have hV : V = vw f l1 ++ vw f l2 := by rw [← hv, e1]; simp [vw]
    have hj1 : ∀ e ∈ vw f l1, kl e.1 key = true := fun e he => by obtain ⟨x, hx, rfl⟩ := List.mem_map.1 he; exact k1 x hx
    have hj2 : ∀ e ∈ vw f l2, kl key e.1 = true := fun e he => by obtain ⟨x, hx, rfl⟩ := List.mem_map.1 he; exact k2 x hx
    have hs : rs key V = false := by rw [hV]; exact (put_new (k := 0) hj1 hj2).2
    rw [del_not hs]
    exact ⟨rfl, h'.below hb, (Kept.ofBelow hb).mono (fun _ _ e => e.elim)⟩
  | some e0 =>
    obtain ⟨b, hb, hs⟩ := hz.sl e0 (ent_some hq).1
    obtain ⟨l1, l2, e1, e2, k1, k2⟩ := split_has hz.tb.rs hq
    have hm0 := (ent_some hq).1
    have hnd := nd_inj hz.nd
    have hbk : bk e0.2.2 = b := by rw [hb]; rfl
    have hne : ∀ e ∈ l1 ++ l2, bk e.2.2 ≠ b := fun e he e3 => by
      have hm : e ∈ t.toL := by rw [e1]; rcases List.mem_append.1 he with h | h <;> simp [h]
      obtain ⟨b1, q1, -⟩ := hz.sl e hm
      have e4 : e = e0 := hnd e hm e0 hm0 (by rw [q1] at e3 ⊢; rw [hb]; have : b1 = b := e3; rw [this])
      rw [e4] at he
      rcases List.mem_append.1 he with h | h
      · have := k1 _ h; rw [e2, kl_irrefl] at this; cases this
      · have := k2 _ h; rw [e2, kl_irrefl] at this; cases this
    have hV : V = vw f l1 ++ (key, f b) :: vw f l2 := by rw [← hv, e1]; simp [vw, e2, hbk]
    have hj1 : ∀ e ∈ vw f l1, kl e.1 key = true := fun e he => by obtain ⟨x, hx, rfl⟩ := List.mem_map.1 he; exact k1 x hx
    have hj2 : ∀ e ∈ vw f l2, kl key e.1 = true := fun e he => by obtain ⟨x, hx, rfl⟩ := List.mem_map.1 he; exact k2 x hx
    cases hh : (f b).has (f b).r
    · refine (sdel_no p key t f _ m w hz (.inr ⟨e0, b, hq, hb, hh⟩)).mono ?_
      rintro x w' ⟨rfl, hb⟩
      rw [hV, del_nil hj1 hj2 hh, ← hV]
      exact ⟨rfl, h'.below hb, (Kept.ofBelow hb).mono (fun _ _ e => e.elim)⟩
    · refine (sdel_has p key t f _ m w e0 b hz hc (by omega) hq hb hh).mono ?_
      rintro x w' ⟨rfl, t', ht', hz', hk'⟩
      have hsub : ∀ e ∈ t'.toL, e ∈ t.toL := fun e he => by
        rw [ht'] at he
        cases m
        · exact mem_del he
        · exact he
      have hfp : ∀ j, fpS p t' j → F j := by
        rintro j (rfl | hj | ⟨e, he, rfl⟩)
        · exact hF _ (.inl rfl)
        · obtain ⟨e, he, rfl⟩ := List.mem_map.1 hj
          exact hF _ (.inr (.inl (List.mem_map.2 ⟨e, hsub e he, rfl⟩)))
        · exact hF _ (.inr (.inr ⟨e, hsub e he, rfl⟩))
      have hkp := hk'.mono (S' := F) (fun j _ e => by
        rcases e with e | e | e
        · exact hF j (.inl e)
        · exact hF j (.inr (.inl e))
        · exact hF j (.inr (.inr ⟨e0, hm0, by rw [hbk]; exact e⟩)))
      have q1 := vw_upd (f := f) (b := b) (s := (f b).lay 0 false) (l := l1) (fun e he => hne e (by simp [he]))
      have q2 := vw_upd (f := f) (b := b) (s := (f b).lay 0 false) (l := l2) (fun e he => hne e (by simp [he]))
      have hkl : keepP (key, (f b).lay 0 false) = false := lay_keep _ _ _
      have hcnt : ((V.filter keepP).length : Nat) = ((vw f l1 ++ vw f l2).filter keepP).length + 1 := by
        rw [hV, filt_len, if_pos (show keepP (key, f b) = true from hh)]
      rw [hV] at hzr
      have hzl : Zr ((f b).lay 0 false) := zr_lay (hzr (key, f b) (by simp)) 0 false (fun _ => rfl)
      cases m
      · have hP : rdelL key false V = vw f l1 ++ vw f l2 := by
          rw [hV, del_has hj1 hj2 hh, if_neg (by decide), List.filter_append, List.filter_cons, if_neg (by rw [hkl]; decide), ← List.filter_append]
          exact List.filter_eq_self.2 (fun e he => hcalm rfl e (by rw [hV]; rcases List.mem_append.1 he with h | h <;> simp [h]))
        have htl : t'.toL = l1 ++ l2 := by rw [ht', if_neg (by decide), e1]; exact del_split e2 k1 k2
        refine ⟨rfl, ⟨⟨t', updF f b ((f b).lay 0 false), ?_, ?_, hfp⟩, fun _ e he => hcalm rfl e ?_, ?_⟩, hkp⟩
        · rw [hcnt] at hz'
          rw [hP]
          have q : (((((vw f l1 ++ vw f l2).filter keepP).length + 1 : Nat) : Int) - 1) = (((vw f l1 ++ vw f l2).filter keepP).length : Nat) := by omega
          rw [q] at hz'
          exact hz'
        · rw [hP, htl, ← q1, ← q2]
          simp [vw]
        · rw [hP] at he
          rw [hV]
          rcases List.mem_append.1 he with h | h <;> simp [h]
        · rw [hP]
          exact all_cut hzr
      · have hP : rdelL key true V = vw f l1 ++ (key, (f b).lay 0 false) :: vw f l2 := by
          rw [hV, del_has hj1 hj2 hh, if_pos rfl]
        have htl : t'.toL = t.toL := by rw [ht', if_pos rfl]
        refine ⟨rfl, ⟨⟨t', updF f b ((f b).lay 0 false), ?_, ?_, hfp⟩, (by intro e; cases e), ?_⟩, hkp⟩
        · rw [hcnt] at hz'
          rw [hP, filt_len, if_neg (by rw [hkl]; decide)]
          have q : (((((vw f l1 ++ vw f l2).filter keepP).length + 1 : Nat) : Int) - 1) = (((vw f l1 ++ vw f l2).filter keepP).length + 0 : Nat) := by omega
          rw [q] at hz'
          exact hz'
        · rw [hP, htl, e1, ← q1, ← q2]
          simp [vw, e2, hbk, updF]
        · rw [hP]
          exact all_put (all_cut hzr) hzl

theorem vget (p : Nat) (key : ByteArray) (V : List Pl) (m : Bool) (F : Nat → Prop) (w : World) (h : ZV w p V m F) :
    Calls Try.prog 15 #[.pointer (some ⟨p, 0, none⟩), .string key] w fun x w' => x = .returned (.tuple #[.int .i64 (rgetV key V).1, .bool (rgetV key V).2]) ∧ Below w.heap.size w w' := by
  obtain ⟨⟨t, f, hz, hv, hF⟩, hcalm, hzr⟩ := h
  have e : zget key f t.toL = rgetV key V := by
    cases hq : ent key t.toL with
    | none =>
      obtain ⟨l1, l2, e1, e2, k1, k2⟩ := split_not hz.tb.rs hq
      have hV : V = vw f l1 ++ vw f l2 := by rw [← hv, e1]; simp [vw]
      have hs : rs key V = false := by
        rw [hV]
        exact (put_new (k := 0) (fun e he => by obtain ⟨x, hx, rfl⟩ := List.mem_map.1 he; exact k1 x hx) (fun e he => by obtain ⟨x, hx, rfl⟩ := List.mem_map.1 he; exact k2 x hx)).2
      rw [get_not hs]
      unfold zget
      rw [hq]
    | some e0 =>
      obtain ⟨b, hb, hs⟩ := hz.sl e0 (ent_some hq).1
      obtain ⟨l1, l2, e1, e2, k1, k2⟩ := split_has hz.tb.rs hq
      have hbk : bk e0.2.2 = b := by rw [hb]; rfl
      have hV : V = vw f l1 ++ (key, f b) :: vw f l2 := by rw [← hv, e1]; simp [vw, e2, hbk]
      have hzs : Zr (f b) := hzr (key, f b) (by rw [hV]; simp)
      rw [hV, get_has (fun e he => by obtain ⟨x, hx, rfl⟩ := List.mem_map.1 he; exact k1 x hx) (fun e he => by obtain ⟨x, hx, rfl⟩ := List.mem_map.1 he; exact k2 x hx)]
      unfold zget
      rw [hq]
      simp only [hb]
      generalize f b = s at hzs ⊢
      obtain ⟨c0, c1, h0, h1, r, wb⟩ := s
      cases r
      · cases h0
        · have := hzs.1 rfl
          simp only [Sd.copy, Sd.has] at this ⊢
          rw [this]
          rfl
        · rfl
      · cases h1
        · have := hzs.2 rfl
          simp only [Sd.copy, Sd.has] at this ⊢
          rw [this]
          rfl
        · rfl
  rw [← e]
  exact sget_any p key t f _ m w hz

theorem keep_mk (e : Pl) : keepP (e.1, e.2.mk') = keepP e := rfl
theorem zr_mk {s : Sd} (h : Zr s) : Zr s.mk' := h

/-- Mark of a store that is not marked. -/
theorem vmark (p : Nat) (V : List Pl) (F : Nat → Prop) (w : World) (h : ZV w p V false F) :
    Calls Try.prog 11 #[.pointer (some ⟨p, 0, none⟩)] w fun x w' => x = .returned (.int .i64 0) ∧ ZV w' p (V.map (fun e => (e.1, e.2.mk'))) true F ∧ Kept F w w' := by
  obtain ⟨⟨t, f, hz, hv, hF⟩, hcalm, hzr⟩ := h
  refine (mark_calm p t f _ w hz ?_).mono ?_
  · intro e he
    exact hcalm rfl (e.2.1, f (bk e.2.2)) (by rw [← hv]; exact List.mem_map.2 ⟨e, he, rfl⟩)
  · rintro x w' ⟨rfl, hz', hk'⟩
    refine ⟨rfl, ⟨⟨t, fun j => (f j).mk', ?_, ?_, hF⟩, (by intro e; cases e), ?_⟩, hk'.mono (fun j _ e => by
      rcases e with e | ⟨x, hx, e⟩
      · exact hF j (.inl e)
      · exact hF j (.inr (.inr ⟨x, hx, e⟩)))⟩
    · rw [List.filter_map, List.length_map]
      exact hz'
    · rw [← hv]
      simp [vw]
    · intro e he
      obtain ⟨x, hx, rfl⟩ := List.mem_map.1 he
      exact zr_mk (hzr x hx)

/-- Done of a store in which every slot has something to be read. -/
theorem vdone_calm (p : Nat) (V : List Pl) (F : Nat → Prop) (w : World) (h : ZV w p V true F) (hk : ∀ e ∈ V, keepP e = true) :
    Calls Try.prog 16 #[.pointer (some ⟨p, 0, none⟩)] w fun x w' => x = .returned (.int .i64 0) ∧ ZV w' p V false F ∧ Kept F w w' := by
  obtain ⟨⟨t, f, hz, hv, hF⟩, hcalm, hzr⟩ := h
  refine (sdone_calm p t f _ w hz ?_).mono ?_
  · intro e he
    exact hk (e.2.1, f (bk e.2.2)) (by rw [← hv]; exact List.mem_map.2 ⟨e, he, rfl⟩)
  · rintro x w' ⟨rfl, hz', hk'⟩
    exact ⟨rfl, ⟨⟨t, f, hz', hv, hF⟩, fun _ => hk, hzr⟩, hk'.mono (fun j _ e => hF j (.inl e))⟩

theorem vlen (p : Nat) (V : List Pl) (m : Bool) (F : Nat → Prop) (w : World) (h : ZV w p V m F) : Calls Try.prog 18 #[.pointer (some ⟨p, 0, none⟩)] w fun x w' => x = .returned (.int .i64 ((V.filter keepP).length : Nat)) ∧ w' = w := by
  obtain ⟨⟨t, f, hz, hv, hF⟩, hcalm, hzr⟩ := h
  exact zlen_any p t f _ m w hz
theorem vmarked (p : Nat) (V : List Pl) (m : Bool) (F : Nat → Prop) (w : World) (h : ZV w p V m F) : Calls Try.prog 35 #[.pointer (some ⟨p, 0, none⟩)] w fun x w' => x = .returned (.bool m) ∧ w' = w := by
  obtain ⟨⟨t, f, hz, hv, hF⟩, hcalm, hzr⟩ := h
  exact zmarked_any p t f _ m w hz
theorem vbusy (p : Nat) (V : List Pl) (F : Nat → Prop) (w : World) (h : ZV w p V true F) : Calls Try.prog 11 #[.pointer (some ⟨p, 0, none⟩)] w fun x w' => x = .returned (.int .i64 18) ∧ w' = w := by
  obtain ⟨⟨t, f, hz, hv, hF⟩, hcalm, hzr⟩ := h
  exact smark_busy p t f _ w hz
theorem vidle (p : Nat) (V : List Pl) (F : Nat → Prop) (w : World) (h : ZV w p V false F) : Calls Try.prog 16 #[.pointer (some ⟨p, 0, none⟩)] w fun x w' => x = .returned (.int .i64 19) ∧ w' = w := by
  obtain ⟨⟨t, f, hz, hv, hF⟩, hcalm, hzr⟩ := h
  exact sdone_idle p t f _ w hz

theorem vnew (w : World) : Calls Try.prog 9 #[] w fun x w' => x = .returned (.pointer (some ⟨w.heap.size, 0, none⟩)) ∧ ZV w' w.heap.size [] false (fun j => j = w.heap.size) ∧ Below w.heap.size w w' ∧ w'.heap.size = w.heap.size + 1 := by
  refine (znew_any w).mono ?_
  rintro x w' ⟨rfl, hz, hb, hs⟩
  refine ⟨rfl, ⟨⟨.nil, _, hz, rfl, ?_⟩, fun _ e he => (by cases he), fun e he => (by cases he)⟩, hb, hs⟩
  rintro j (rfl | hj | ⟨e, he, rfl⟩)
  · rfl
  · cases hj
  · cases he

/-- The first from one text to another in which something is seen. -/
def fitP (h : Bool) (frm to : ByteArray) (e : Pl) : Bool := !kl e.1 frm && ((to.toList == []) || !kl to e.1) && (see h e.2).2
def leastP (h : Bool) (frm to : ByteArray) (V : List Pl) : Option Pl := V.find? (fitP h frm to)
def leastW (h : Bool) (frm to : ByteArray) (V : List Pl) : ByteArray × Int × Bool := match leastP h frm to V with
  | some e => (e.1, (see h e.2).1, true)
  | none => (⟨#[]⟩, 0, false)

theorem least_vw (h : Bool) (f : Nat → Sd) (frm to : ByteArray) (l : List En) : leastV h f frm to l = .tuple #[.string (leastW h frm to (vw f l)).1, .int .i64 (leastW h frm to (vw f l)).2.1, .bool (leastW h frm to (vw f l)).2.2] := by
  have e : leastP h frm to (vw f l) = (leastE h f frm to l).map (fun e => (e.2.1, f (bk e.2.2))) := by
    unfold leastP vw leastE
    rw [List.find?_map]
    rfl
  unfold leastV leastW
  rw [e]
  cases leastE h f frm to l <;> rfl

theorem vleast49 (p : Nat) (frm to : ByteArray) (V : List Pl) (m : Bool) (F : Nat → Prop) (w : World) (h : ZV w p V m F) (h1 : frm.size ≤ 281474976710656) (h2 : to.size ≤ 281474976710656) :
    Calls Try.prog 36 #[.pointer (some ⟨p, 0, none⟩), .string frm, .string to, .func (.func 28) #[] #[]] w fun x w' => x = .returned (.tuple #[.string (leastW false frm to V).1, .int .i64 (leastW false frm to V).2.1, .bool (leastW false frm to V).2.2]) ∧ Below w.heap.size w w' := by
  obtain ⟨⟨t, f, hz, hv, hF⟩, hcalm, hzr⟩ := h
  rw [← hv, ← least_vw]
  exact least49 p frm to t f _ m w hz h1 h2
theorem vleast58 (p : Nat) (frm to : ByteArray) (V : List Pl) (m : Bool) (F : Nat → Prop) (w : World) (h : ZV w p V m F) (h1 : frm.size ≤ 281474976710656) (h2 : to.size ≤ 281474976710656) :
    Calls Try.prog 36 #[.pointer (some ⟨p, 0, none⟩), .string frm, .string to, .func (.func 37) #[] #[]] w fun x w' => x = .returned (.tuple #[.string (leastW true frm to V).1, .int .i64 (leastW true frm to V).2.1, .bool (leastW true frm to V).2.2]) ∧ Below w.heap.size w w' := by
  obtain ⟨⟨t, f, hz, hv, hF⟩, hcalm, hzr⟩ := h
  rw [← hv, ← least_vw]
  exact least58 p frm to t f _ m w hz h1 h2

end Go.Proofs.Ythjggbcppgbdoab

namespace Go.Proofs.Ythjggbcppgbdoab
open Go.RowKit

abbrev zSl : Obj := .cells #[.int .i64 0, .int .i64 0, .bool false, .bool false, .int .i64 0, .int .i64 0] 42
abbrev zAg : Value := .agg #[.int .i64 0, .int .i64 0, .bool false, .bool false, .int .i64 0, .int .i64 0]

set_option maxRecDepth 100000 in
set_option maxHeartbeats 2000000 in
theorem sslot_no (o : Option Addr) (key : ByteArray) (t : Tr) (w : World) (ht : TO w o t) (hq : ent key t.toL = none) :
    Calls Try.prog 12 #[.pointer o, .string key] w fun x w' => x = .returned (.tuple #[zAg, .bool false]) ∧ Below w.heap.size w w' := by
  have AT := hid (sat_any o key t (w.alloc zSl) none false (ht.below (below_new _ _)) (by rw [getV, hq]))
  have R0 := hid (hp_new w zSl)
  clear ht hq
  go_enter Try.func12, Try.ntmps12
  go_wp2_with (
    go_at_call 26
    refine AT.out.mono ?_
    rintro e w1 ⟨rfl, hb⟩
    have B1 := hid (below_on (below_new w zSl) hb)
    have R1 := hid (hp_below R0.out hb (by simp))
    have fr : ∀ j, w1.frozen? ⟨w.heap.size, j, none⟩ = false := fun j => free_of_block R1.out
    obtain ⟨r0, r1, r2, r3, r4, r5⟩ := cells6 R1.out
    clear hb)
  refine bodyPost_ret (ret_agg56b Try.results12 rfl rfl (set6 R1.out _ _ _ _ _ _)) rfl ?_
  exact ⟨rfl, sl_set B1.out (by omega) _ _ _ _ _ _⟩

set_option maxRecDepth 100000 in
set_option maxHeartbeats 2000000 in
theorem sslot_has (p : Nat) (key : ByteArray) (t : Tr) (f : Nat → Sd) (c : Int) (m : Bool) (w : World) (h : ZS w p t f c m) (e0 : En) (b : Nat) (hq : ent key t.toL = some e0) (hb : e0.2.2 = .pointer (some ⟨b, 0, none⟩)) :
    Calls Try.prog 12 #[.pointer (some ⟨p, 0, none⟩), .string key] w fun x w' => x = .returned (.tuple #[(f b).agg, .bool true]) ∧ Below w.heap.size w w' := by
  have hz := h.below (below_new w zSl)
  have AT := hid (sat_any (some ⟨p, 0, none⟩) key t (w.alloc zSl) (some ⟨b, 0, none⟩) true (.inr ⟨p, _, rfl, hz.tb⟩) (by rw [getV, hq]; show Value.tuple #[e0.2.2, .bool true] = _; rw [hb]))
  have R0 := hid (hp_new w zSl)
  obtain ⟨b0, q1, q2⟩ := hz.sl e0 (ent_some hq).1
  have hbb : b0 = b := by rw [hb] at q1; injection q1 with q1; injection q1 with q1; injection q1 with q1; exact q1.symm
  subst hbb
  have S0 := hid q2
  have hne : w.heap.size ≠ b0 := by
    intro e
    obtain ⟨b1, q3, q4⟩ := h.sl e0 (ent_some hq).1
    rw [hb] at q3
    injection q3 with q3; injection q3 with q3; injection q3 with q3
    subst q3
    have := hp_lt q4
    omega
  clear h hz hq hb q1 q2
  unfold Sd.agg
  generalize f b0 = s at S0 ⊢
  obtain ⟨c0, c1, h0, h1, r, wb⟩ := s
  generalize hzr : bit r = zr
  generalize hzw : bit wb = zw
  have S0' : Hid ((w.alloc zSl).heap[b0]? = some (.cells #[.int .i64 c0, .int .i64 c1, .bool h0, .bool h1, .int .i64 zr, .int .i64 zw] 42 (0, 0))) := by
    rw [← hzr, ← hzw]
    exact S0
  clear S0 hzr hzw
  go_enter Try.func12, Try.ntmps12
  go_wp2_with (
    go_at_call 26
    refine AT.out.mono ?_
    rintro e w1 ⟨rfl, hb⟩
    have B1 := hid (below_on (below_new w zSl) hb)
    have R1 := hid (hp_below R0.out hb (by simp))
    have S1 := hid (hp_below S0'.out hb (hp_lt S0'.out))
    have fr : ∀ j, w1.frozen? ⟨w.heap.size, j, none⟩ = false := fun j => free_of_block R1.out
    obtain ⟨r0, r1, r2, r3, r4, r5⟩ := cells6 R1.out
    obtain ⟨v0, v1, v2, v3, v4, v5⟩ := cells6 S1.out
    clear hb)
  refine bodyPost_ret (ret_agg56b Try.results12 rfl rfl (set6 R1.out _ _ _ _ _ _)) rfl ?_
  exact ⟨rfl, sl_set B1.out (by omega) _ _ _ _ _ _⟩

/-- What Slot answers. -/
def slotW (key : ByteArray) (V : List Pl) : Sd × Bool := match V[ri key V]? with
  | some e => if rs key V = true then (e.2, true) else (⟨0, 0, false, false, false, false⟩, false)
  | none => (⟨0, 0, false, false, false, false⟩, false)

theorem vslot (p : Nat) (key : ByteArray) (V : List Pl) (m : Bool) (F : Nat → Prop) (w : World) (h : ZV w p V m F) :
    Calls Try.prog 12 #[.pointer (some ⟨p, 0, none⟩), .string key] w fun x w' => x = .returned (.tuple #[(slotW key V).1.agg, .bool (slotW key V).2]) ∧ Below w.heap.size w w' := by
  obtain ⟨⟨t, f, hz, hv, hF⟩, hcalm, hzr⟩ := h
  cases hq : ent key t.toL with
  | none =>
    obtain ⟨l1, l2, e1, e2, k1, k2⟩ := split_not hz.tb.rs hq
    have hV : V = vw f l1 ++ vw f l2 := by rw [← hv, e1]; simp [vw]
    have hs : rs key V = false := by
      rw [hV]
      exact (put_new (k := 0) (fun e he => by obtain ⟨x, hx, rfl⟩ := List.mem_map.1 he; exact k1 x hx) (fun e he => by obtain ⟨x, hx, rfl⟩ := List.mem_map.1 he; exact k2 x hx)).2
    have e : slotW key V = (⟨0, 0, false, false, false, false⟩, false) := by
      unfold slotW
      cases V[ri key V]? with
      | none => rfl
      | some e => simp [hs]
    rw [e]
    exact sslot_no _ key t w (.inr ⟨p, _, rfl, hz.tb⟩) hq
  | some e0 =>
    obtain ⟨b, hb, hs⟩ := hz.sl e0 (ent_some hq).1
    obtain ⟨l1, l2, e1, e2, k1, k2⟩ := split_has hz.tb.rs hq
    have hbk : bk e0.2.2 = b := by rw [hb]; rfl
    have hV : V = vw f l1 ++ (key, f b) :: vw f l2 := by rw [← hv, e1]; simp [vw, e2, hbk]
    obtain ⟨hr, hs⟩ := ri_has (key := key) (s := f b) (V1 := vw f l1) (V2 := vw f l2) (fun e he => by obtain ⟨x, hx, rfl⟩ := List.mem_map.1 he; exact k1 x hx) (fun e he => by obtain ⟨x, hx, rfl⟩ := List.mem_map.1 he; exact k2 x hx)
    have e : slotW key V = (f b, true) := by
      unfold slotW
      rw [hV, hr, hs, at_app]
      simp
    rw [e]
    exact sslot_has p key t f _ m w hz e0 b hq hb

end Go.Proofs.Ythjggbcppgbdoab
