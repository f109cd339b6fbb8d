import Derived.Test.YthjggbcppgbdoaaK17
namespace Go.Proofs.Ythjggbcppgbdoaa
open Go.RowKit

/-- The blocks of a store have six cells at most. -/
theorem ZV.apart {w : World} {p : Nat} {V : List Pl} {m : Bool} {F : Nat → Prop} (h : ZV w p V m F) :
    ∃ F0 : Nat → Prop, (∀ j, F0 j → F j) ∧ ZV w p V m F0 ∧ ∀ j, F0 j → ∃ cs T, w.heap[j]? = some (.cells cs T (0, 0)) ∧ cs.size ≤ 6 := by
  obtain ⟨⟨t, f, hz, hv, hF⟩, h1, h2⟩ := h
  refine ⟨fpS p t, hF, ⟨⟨t, f, hz, hv, fun _ e => e⟩, h1, h2⟩, ?_⟩
  rintro j (rfl | hj | ⟨e, he, rfl⟩)
  · exact ⟨_, _, hz.tb.blk, by simp⟩
  · obtain ⟨e, he, rfl⟩ : ∃ e ∈ t.toL, e.1 = j := by
      unfold Tr.bs blks at hj
      simpa using hj
    obtain ⟨a, b, c, hb⟩ := hz.tb.at_.blk e he
    exact ⟨_, _, hb, by simp⟩
  · obtain ⟨b, eb, hs⟩ := hz.sl e he
    rw [eb]
    exact ⟨_, _, hs, by simp [Sd.cells]⟩

theorem rl_apart {w : World} {v : Value} {l : List Pl} {j : Nat} {cs : Array Value} {T : TypeId} (h : RL w v l) (hj : v.ownBlock = some j) (hb : w.heap[j]? = some (.cells cs T (0, 0))) (hs : cs.size ≤ 6) : False := by
  rcases Nat.eq_zero_or_pos l.length with h0 | h0
  · rw [h.2 (List.eq_nil_of_length_eq_zero h0)] at hj
    simp [Value.ownBlock] at hj
  · obtain ⟨g, off, cap, rfl, -, -, hc⟩ := h.1.lits h0 (by omega)
    have eg : g = j := by simpa [Value.ownBlock] using hj
    subst eg
    obtain ⟨a, l2, rfl⟩ : ∃ a l2, l = a :: l2 := by
      cases l with
      | nil => simp at h0
      | cons a l2 => exact ⟨a, l2, rfl⟩
    have := hc 6 (.int .i64 (bit a.2.w)) (by simp [List.flatMap_cons, plC])
    rw [cell_of_row w g _ _ _ _ hb] at this
    have h6 : off + 6 < cs.size := (Array.getElem?_eq_some_iff.1 this).1
    omega

/-- A store and the document's list, apart. -/
structure St (w : World) (p : Nat) (v : Value) (m : Bool) (l : List Pl) (F : Nat → Prop) : Prop where
  z : ZV w p l m F
  r : RL w v l
  ap : ∀ j, v.ownBlock = some j → ¬ F j
  fl : ∀ j, F j → j < w.heap.size

theorem St.mk' {w : World} {p : Nat} {v : Value} {m : Bool} {l : List Pl} {F : Nat → Prop} (hz : ZV w p l m F) (hr : RL w v l) : ∃ F0 : Nat → Prop, (∀ j, F0 j → F j) ∧ St w p v m l F0 ∧ ∀ u k, RL w u k → ∀ j, u.ownBlock = some j → ¬ F0 j := by
  obtain ⟨F0, h1, h2, h3⟩ := hz.apart
  have A : ∀ u k, RL w u k → ∀ j, u.ownBlock = some j → ¬ F0 j := fun u k hu j hj hf => by
    obtain ⟨cs, T, hb, hs⟩ := h3 j hf
    exact rl_apart hu hj hb hs
  exact ⟨F0, h1, ⟨h2, hr, A v l hr, fun j hf => by obtain ⟨cs, T, hb, hs⟩ := h3 j hf; exact hp_lt hb⟩, A⟩

theorem St.below {w w' : World} {p : Nat} {v : Value} {m : Bool} {l : List Pl} {F : Nat → Prop} (h : St w p v m l F) (hb : Below w.heap.size w w') : St w' p v m l F :=
  ⟨h.z.below hb, h.r.below hb, h.ap, fun j hj => Nat.lt_of_lt_of_le (h.fl j hj) hb.size⟩
theorem St.kept {w w' : World} {p : Nat} {v : Value} {m : Bool} {l : List Pl} {F S : Nat → Prop} (h : St w p v m l F) (hk : Kept S w w') (h1 : ∀ j, F j → ¬ S j) (h2 : ∀ j, v.ownBlock = some j → ¬ S j) : St w' p v m l F :=
  ⟨h.z.kept hk h1, ⟨h.r.1.kept hk h2, h.r.2⟩, h.ap, fun j hj => Nat.lt_of_lt_of_le (h.fl j hj) hk.size⟩

/-- The keys rise. -/
theorem ZV.sorted {w : World} {p : Nat} {V : List Pl} {m : Bool} {F : Nat → Prop} (h : ZV w p V m F) : V.Pairwise (fun a b => kl a.1 b.1 = true) := by
  obtain ⟨⟨t, f, hz, rfl, hF⟩, h1, h2⟩ := h
  unfold vw
  rw [List.pairwise_map]
  exact hz.tb.rs

theorem least_bound {frm to : ByteArray} : ∀ {V : List Pl}, V.Pairwise (fun a b => kl a.1 b.1 = true) → leastP false frm to V = (leastP false frm ⟨#[]⟩ V).filter (fun e => (to.toList == []) || !kl to e.1)
  | [], _ => rfl
  | a :: V, h => by
    have ih := least_bound (frm := frm) (to := to) (List.pairwise_cons.1 h).2
    have ha := (List.pairwise_cons.1 h).1
    unfold leastP at ih ⊢
    rw [List.find?_cons, List.find?_cons]
    have e1 : fitP false frm ⟨#[]⟩ a = (!kl a.1 frm && (see false a.2).2) := by unfold fitP; simp
    have e2 : fitP false frm to a = ((!kl a.1 frm && (see false a.2).2) && ((to.toList == []) || !kl to a.1)) := by
      unfold fitP
      cases !kl a.1 frm <;> cases (see false a.2).2 <;> simp
    rw [e1, e2]
    cases hq : (!kl a.1 frm && (see false a.2).2)
    · simp only [Bool.false_and]
      exact ih
    · cases hb : ((to.toList == []) || !kl to a.1)
      · simp only [Bool.and_false]
        rw [Option.filter_some_neg (by simpa using hb)]
        rw [List.find?_eq_none]
        intro x hx
        simp only [Bool.or_eq_false_iff, Bool.not_eq_false'] at hb
        have := kl_trans hb.2 (ha x hx)
        simp only [fitP, hb.1, this]
        simp
      · simp only [Bool.and_true]
        rw [Option.filter_some_pos (by simpa using hb)]

theorem sorted_split {V : List Pl} {e : Pl} (h : V.Pairwise (fun a b => kl a.1 b.1 = true)) (he : e ∈ V) : ∃ V1 V2, V = V1 ++ e :: V2 ∧ (∀ x ∈ V1, kl x.1 e.1 = true) ∧ ∀ x ∈ V2, kl e.1 x.1 = true := by
  obtain ⟨V1, V2, rfl⟩ := List.append_of_mem he
  refine ⟨V1, V2, rfl, fun x hx => ?_, fun x hx => ?_⟩
  · exact (List.pairwise_append.1 h).2.2 x hx e (by simp)
  · exact (List.pairwise_cons.1 (List.pairwise_append.1 h).2.1).1 x hx

/-- What a search finds is what Get tells. -/
theorem least_get {frm to : ByteArray} {V : List Pl} {e : Pl} (h : V.Pairwise (fun a b => kl a.1 b.1 = true)) (he : leastP false frm to V = some e) : rgetV e.1 V = ((see false e.2).1, true) ∧ e ∈ V ∧ kl e.1 frm = false := by
  have hm := List.mem_of_find?_eq_some he
  have hp := List.find?_some he
  unfold fitP at hp
  simp only [Bool.and_eq_true, Bool.not_eq_true'] at hp
  obtain ⟨V1, V2, rfl, a1, a2⟩ := sorted_split h hm
  refine ⟨?_, hm, hp.1.1⟩
  have := get_has (s := e.2) a1 a2
  rw [show ((e.1, e.2) : Pl) = e from rfl] at this
  rw [this]
  have h2 := hp.2
  simp only [see] at h2 ⊢
  simp at h2
  simp [h2]

/-- The law's first key: that of the text itself, or the next one. -/
theorem least_first {K : ByteArray} {V : List Pl} (h : V.Pairwise (fun a b => kl a.1 b.1 = true)) :
    ((rgetV K V).2 = true → ∃ e, leastP false K ⟨#[]⟩ V = some e ∧ e.1 = K) ∧ ((rgetV K V).2 = false → leastP false K ⟨#[]⟩ V = rnx K V) := by
  constructor
  · intro hg
    unfold rgetV at hg
    cases hr : V[ri K V]? with
    | none => rw [hr] at hg; simp at hg
    | some e =>
      rw [hr] at hg
      by_cases hc : rs K V = true ∧ e.2.has e.2.r = true
      · have hk : e.1 = K := by
          have := hc.1
          unfold rs at this
          rw [hr] at this
          simpa using this
        obtain ⟨V1, V2, rfl, a1, a2⟩ := sorted_split h (List.mem_of_getElem? hr)
        refine ⟨e, ?_, hk⟩
        unfold leastP
        rw [List.find?_append]
        have n1 : V1.find? (fitP false K ⟨#[]⟩) = none := by
          rw [List.find?_eq_none]
          intro x hx
          have := a1 x hx
          rw [hk] at this
          simp [fitP, this]
        rw [n1, Option.none_or, List.find?_cons]
        have : fitP false K ⟨#[]⟩ e = true := by
          unfold fitP
          rw [hk, kl_irrefl]
          simp [see, hc.2]
        rw [this]
      · simp [hc] at hg
  · intro hg
    unfold leastP rnx
    have key : ∀ e ∈ V, fitP false K ⟨#[]⟩ e = (kl K e.1 && e.2.has e.2.r) := by
      intro e he
      have e1 : fitP false K ⟨#[]⟩ e = (!kl e.1 K && e.2.has e.2.r) := by unfold fitP; simp [see]
      rw [e1]
      cases hh : e.2.has e.2.r
      · simp
      · simp only [Bool.and_true]
        by_cases hk : e.1 = K
        · obtain ⟨V1, V2, rfl, a1, a2⟩ := sorted_split h he
          have := get_has (s := e.2) a1 a2
          rw [show ((e.1, e.2) : Pl) = e from rfl, hk] at this
          rw [this] at hg
          simp [hh] at hg
        · cases h1 : kl e.1 K
          · cases h2 : kl K e.1
            · exact absurd (kl_tri h1 h2) hk
            · rfl
          · rw [kl_asymm h1]; rfl
    clear hg h
    induction V with
    | nil => rfl
    | cons a V ih =>
      rw [List.find?_cons, List.find?_cons, key a (by simp), ih (fun e he => key e (by simp [he]))]

end Go.Proofs.Ythjggbcppgbdoaa

namespace Go.Proofs.Ythjggbcppgbdoaa
open Go.RowKit

/-- A step of a script. -/
structure Sp where
  kind : Int
  v : Int
  n : Int
  key : ByteArray
  to : ByteArray
  other : ByteArray

abbrev Sp.cells (x : Sp) : Array Value := #[.int .i64 x.kind, .int .i64 x.v, .int .i64 x.n, .string x.key, .string x.to, .string x.other]
abbrev Sp.agg (x : Sp) : Value := .agg x.cells

/-- What a loop's body makes of the places. -/
def turnL (x : Sp) (m : Bool) (l : List Pl) : List Pl := if x.v = 0 then rdelL x.other m l else rputL x.other x.v l

/-- The result's box is written: the store and the new list stand in the world behind it. -/
theorem st_fin {w w1 w2 : World} {p : Nat} {v' : Value} {m' : Bool} {l' : List Pl} {F F1 : Nat → Prop} {r : Nat} {o : Option Addr} {n c : Nat} {q : Bool} (hz : ZV w1 p l' m' F1) (hr : RL w2 v' l') (hb : Below w1.heap.size w1 w2) (hx : w2.heap[r]? = some (.cells #[.slice o n c, .bool q] 34 (0, 0))) (hn : ¬ F1 r) (hw : w.heap.size ≤ r) (hk : Kept F w w1) :
    ∃ F', St ((w2.setCell ⟨r, 0, none⟩ v').setCell ⟨r, 1, none⟩ (.bool m')) p v' m' l' F' ∧ (∀ j, F' j → F1 j) ∧ Kept F w ((w2.setCell ⟨r, 0, none⟩ v').setCell ⟨r, 1, none⟩ (.bool m')) := by
  have K : Kept (fun k => k = r) w2 ((w2.setCell ⟨r, 0, none⟩ v').setCell ⟨r, 1, none⟩ (.bool m')) := ((Kept.refl (fun k => k = r) w2).setCell (p := ⟨r, 0, none⟩) (fun _ => rfl) v').setCell (p := ⟨r, 1, none⟩) (fun _ => rfl) (.bool m')
  have hz3 := (hz.below hb).kept K (fun j hj e => hn (e ▸ hj))
  have hr3 : RL ((w2.setCell ⟨r, 0, none⟩ v').setCell ⟨r, 1, none⟩ (.bool m')) v' l' := ⟨hr.1.kept K (fun j hj e => by subst e; exact rl_apart hr hj hx (by simp)), hr.2⟩
  obtain ⟨F', f1, f2, -⟩ := St.mk' hz3 hr3
  exact ⟨F', f2, f1, (hk.trans (Kept.ofBelow hb) (fun _ _ e => e.elim)).trans K (fun i hi e => by subst e; omega)⟩

abbrev tW (w : World) (v : Value) (m : Bool) (x : Sp) : World := ((w.alloc (.cells #[v, .bool m] 34)).alloc (.cells x.cells 36)).alloc (.cells #[.slice none 0 0, .bool false] 34)
theorem tW_below (w : World) (v : Value) (m : Bool) (x : Sp) : Below w.heap.size w (tW w v m x) := ((below_new _ _).alloc (by simp) _).alloc (by simp; omega) _
theorem tW_size (w : World) (v : Value) (m : Bool) (x : Sp) : (tW w v m x).heap.size = w.heap.size + 3 := by simp [tW]
theorem tW_s (w : World) (v : Value) (m : Bool) (x : Sp) : (tW w v m x).heap[w.heap.size]? = some (.cells #[v, .bool m] 34 (0, 0)) := hp_alloc (hp_alloc (hp_new _ _) _) _
theorem tW_x (w : World) (v : Value) (m : Bool) (x : Sp) : (tW w v m x).heap[w.heap.size + 1]? = some (.cells x.cells 36 (0, 0)) := by
  have := hp_alloc (hp_new (w.alloc (.cells #[v, .bool m] 34)) (.cells x.cells 36)) (.cells #[.slice none 0 0, .bool false] 34)
  simpa using this
theorem tW_r (w : World) (v : Value) (m : Bool) (x : Sp) : (tW w v m x).heap[w.heap.size + 1 + 1]? = some (.cells #[.slice none 0 0, .bool false] 34 (0, 0)) := by
  have := hp_new ((w.alloc (.cells #[v, .bool m] 34)).alloc (.cells x.cells 36)) (.cells #[.slice none 0 0, .bool false] 34)
  simpa using this

/-- What a call of the law leaves: the same store, the places told, blocks new or old. -/
def After (p : Nat) (m' : Bool) (l' : List Pl) (F : Nat → Prop) (w : World) (v' : Value) (w' : World) : Prop := ∃ F', St w' p v' m' l' F' ∧ (∀ j, F' j → F j ∨ w.heap.size ≤ j) ∧ Kept F w w'

set_option maxRecDepth 100000 in
set_option maxHeartbeats 4000000 in
theorem turn_del (x : Sp) (p : Nat) (v : Value) (m : Bool) (l : List Pl) (F : Nat → Prop) (w : World) (h : St w p v m l F) (hl : l.length ≤ 500000) (hv : x.v = 0) :
    Calls Try.prog 68 #[.pointer (some ⟨p, 0, none⟩), .agg #[v, .bool m], x.agg] w fun y w' => ∃ v', y = .returned (.agg #[v', .bool m]) ∧ After p m (rdelL x.other m l) F w v' w' := by
  obtain ⟨ao, cap, e, -, -⟩ := h.r.1.shape
  subst e
  have nF : ∀ k, ¬ F (w.heap.size + k) := fun k hk => by have := h.fl _ hk; omega
  have A1 := hid (vdel p x.other l m F _ (h.z.below (tW_below w (.slice ao l.length cap) m x)) hl)
  have HP := hid (show ∀ w1, Kept F (tW w (.slice ao l.length cap) m x) w1 → w1.heap[w.heap.size]? = some (.cells #[.slice ao l.length cap, .bool m] 34 (0, 0)) ∧ w1.heap[w.heap.size + 1]? = some (.cells x.cells 36 (0, 0)) ∧ w1.heap[w.heap.size + 1 + 1]? = some (.cells #[.slice none 0 0, .bool false] 34 (0, 0)) from fun w1 hk => ⟨hp_kept (tW_s _ _ _ _) hk (nF 0), hp_kept (tW_x _ _ _ _) hk (nF 1), hp_kept (tW_r _ _ _ _) hk (nF 2)⟩)
  have A2 := hid (show ∀ w1, Kept F (tW w (.slice ao l.length cap) m x) w1 → _ from fun w1 hk => rdel_any (.slice ao l.length cap) m l x.other w1 ⟨(h.r.below (tW_below w (.slice ao l.length cap) m x)).1.kept hk h.ap, h.r.2⟩ (by omega))
  have H := hid h
  have NF := hid nF
  obtain ⟨y0, y1⟩ := cells2 (tW_s w (.slice ao l.length cap) m x)
  obtain ⟨x0, x1, x2, x3, x4, x5⟩ := cells6 (tW_x w (.slice ao l.length cap) m x)
  obtain ⟨xk, xv, xn, key, to, oth⟩ := x
  simp only at hv
  subst hv
  simp only at A1 A2 HP
  clear h hl nF
  go_enter Try.func68, Try.ntmps68
  go_wp2_with (first
    | (go_at_call 17
       refine A1.out.mono ?_
       rintro e w1 ⟨rfl, hz, hk⟩
       obtain ⟨s1, q1, r1⟩ := HP.out w1 hk
       obtain ⟨s10, s11⟩ := cells2 s1
       obtain ⟨q10, q11, q12, q13, q14, q15⟩ := cells6 q1
       have Z1 := hid hz
       have K1 := hid hk
       have R1 := hid r1
       clear hz hk s1 q1 r1 x0 x1 x2 x3 x4 x5 y0 y1)
    | (go_at_call 35
       refine (A2.out w1 K1.out).mono ?_
       rintro e w2 ⟨v', rfl, hr, hb⟩
       obtain ⟨ao2, cap2, eu, -, -⟩ := hr.1.shape
       generalize (_ : List Pl).length = n2 at eu
       subst eu
       have RR := hid hr
       have B2 := hid hb
       have R2 := hid (hp_below R1.out hb (hp_lt R1.out))
       have fr : ∀ j, w2.frozen? ⟨w.heap.size + 1 + 1, j, none⟩ = false := fun j => free_of_block R2.out
       obtain ⟨r20, r21⟩ := cells2 R2.out
       clear hr hb))
  refine bodyPost_ret (ret_agg34 Try.results68 rfl (set2 R2.out _ _)) rfl ?_
  obtain ⟨F', f1, f2, f3⟩ := st_fin (w := w) Z1.out RR.out B2.out R2.out (NF.out 2) (by omega) (show Kept F w w1 from (Kept.ofBelow (tW_below w (.slice ao l.length cap) m _)).mono (fun _ _ e => e.elim) |>.trans K1.out (fun _ _ e => e))
  exact ⟨_, rfl, F', f1, fun j hj => .inl (f2 j hj), f3⟩

set_option maxRecDepth 100000 in
set_option maxHeartbeats 4000000 in
theorem turn_put (x : Sp) (p : Nat) (v : Value) (m : Bool) (l : List Pl) (F : Nat → Prop) (w : World) (h : St w p v m l F) (hl : l.length ≤ 500000) (hv : ¬ x.v = 0) (ho : x.other.size ≤ 281474976710656) :
    Calls Try.prog 68 #[.pointer (some ⟨p, 0, none⟩), .agg #[v, .bool m], x.agg] w fun y w' => ∃ v', y = .returned (.agg #[v', .bool m]) ∧ After p m (rputL x.other x.v l) F w v' w' := by
  obtain ⟨ao, cap, e, -, -⟩ := h.r.1.shape
  subst e
  have nF : ∀ k, ¬ F (w.heap.size + k) := fun k hk => by have := h.fl _ hk; omega
  have A1 := hid (vput p x.other x.v l m F _ (h.z.below (tW_below w (.slice ao l.length cap) m x)) hl ho)
  have HP := hid (show ∀ w1, Kept F (tW w (.slice ao l.length cap) m x) w1 → w1.heap[w.heap.size]? = some (.cells #[.slice ao l.length cap, .bool m] 34 (0, 0)) ∧ w1.heap[w.heap.size + 1]? = some (.cells x.cells 36 (0, 0)) ∧ w1.heap[w.heap.size + 1 + 1]? = some (.cells #[.slice none 0 0, .bool false] 34 (0, 0)) from fun w1 hk => ⟨hp_kept (tW_s _ _ _ _) hk (nF 0), hp_kept (tW_x _ _ _ _) hk (nF 1), hp_kept (tW_r _ _ _ _) hk (nF 2)⟩)
  have A2 := hid (show ∀ w1, Kept F (tW w (.slice ao l.length cap) m x) w1 → _ from fun w1 hk => rput_any (.slice ao l.length cap) m l x.other x.v w1 ⟨(h.r.below (tW_below w (.slice ao l.length cap) m x)).1.kept hk h.ap, h.r.2⟩ (by omega))
  have H := hid h
  have NF := hid nF
  obtain ⟨y0, y1⟩ := cells2 (tW_s w (.slice ao l.length cap) m x)
  obtain ⟨x0, x1, x2, x3, x4, x5⟩ := cells6 (tW_x w (.slice ao l.length cap) m x)
  obtain ⟨xk, xv, xn, key, to, oth⟩ := x
  simp only at hv A1 A2 HP
  clear h hl nF ho
  go_enter Try.func68, Try.ntmps68
  go_wp2_with (first
    | (go_at_call 16
       refine A1.out.mono ?_
       rintro e w1 ⟨rfl, hz, hk⟩
       obtain ⟨s1, q1, r1⟩ := HP.out w1 hk
       obtain ⟨s10, s11⟩ := cells2 s1
       obtain ⟨q10, q11, q12, q13, q14, q15⟩ := cells6 q1
       have Z1 := hid hz
       have K1 := hid hk
       have R1 := hid r1
       clear hz hk s1 q1 r1 x0 x1 x2 x3 x4 x5 y0 y1)
    | (go_at_call 34
       refine (A2.out w1 K1.out).mono ?_
       rintro e w2 ⟨v', rfl, hr, hb⟩
       obtain ⟨ao2, cap2, eu, -, -⟩ := hr.1.shape
       generalize (_ : List Pl).length = n2 at eu
       subst eu
       have RR := hid hr
       have B2 := hid hb
       have R2 := hid (hp_below R1.out hb (hp_lt R1.out))
       have fr : ∀ j, w2.frozen? ⟨w.heap.size + 1 + 1, j, none⟩ = false := fun j => free_of_block R2.out
       obtain ⟨r20, r21⟩ := cells2 R2.out
       clear hr hb))
  refine bodyPost_ret (ret_agg34 Try.results68 rfl (set2 R2.out _ _)) rfl ?_
  obtain ⟨F', f1, f2, f3⟩ := st_fin (w := w) Z1.out RR.out B2.out R2.out (fun hg => hg.elim (NF.out 2) (fun q => by have := q.1; rw [tW_size] at this; omega)) (by omega) (show Kept F w w1 from (Kept.ofBelow (tW_below w (.slice ao l.length cap) m _)).mono (fun _ _ e => e.elim) |>.trans K1.out (fun _ _ e => e))
  exact ⟨_, rfl, F', f1, fun j hj => (f2 j hj).imp (fun e => e) (fun q => by have := q.1; rw [tW_size] at this; omega), f3⟩

theorem turn_any (x : Sp) (p : Nat) (v : Value) (m : Bool) (l : List Pl) (F : Nat → Prop) (w : World) (h : St w p v m l F) (hl : l.length ≤ 500000) (ho : x.other.size ≤ 281474976710656) :
    Calls Try.prog 68 #[.pointer (some ⟨p, 0, none⟩), .agg #[v, .bool m], x.agg] w fun y w' => ∃ v', y = .returned (.agg #[v', .bool m]) ∧ After p m (turnL x m l) F w v' w' := by
  unfold turnL
  by_cases hv : x.v = 0
  · rw [if_pos hv]; exact turn_del x p v m l F w h hl hv
  · rw [if_neg hv]; exact turn_put x p v m l F w h hl hv ho

end Go.Proofs.Ythjggbcppgbdoaa

namespace Go.Proofs.Ythjggbcppgbdoaa
open Go.RowKit

/-- The boxes of ranged. -/
structure RB (W : World) (bw ba bo bv bi bx bn bs p : Nat) (x : Sp) (v : Value) (m : Bool) (k : ByteArray) (q ov : Bool) (n : Int) : Prop where
  w : W.heap[bw]? = some (.cells #[v, .bool m] 34 (0, 0))
  a : W.heap[ba]? = some (.cells #[.string k] 9 (0, 0))
  o : W.heap[bo]? = some (.cells #[.bool true] 4 (0, 0))
  v : W.heap[bv]? = some (.cells #[.bool ov] 4 (0, 0))
  i : W.heap[bi]? = some (.cells #[.bool q] 4 (0, 0))
  x : W.heap[bx]? = some (.cells x.cells 36 (0, 0))
  n : W.heap[bn]? = some (.cells #[.int .i64 n] 3 (0, 0))
  s : W.heap[bs]? = some (.cells #[.pointer (some ⟨p, 0, none⟩)] 25 (0, 0))
  nov : bo ≠ bv
  noi : bo ≠ bi
  nvi : bv ≠ bi

theorem RB.kept {W W' : World} {bw ba bo bv bi bx bn bs p : Nat} {x : Sp} {v : Value} {m : Bool} {k : ByteArray} {q ov : Bool} {n : Int} {S : Nat → Prop} (h : RB W bw ba bo bv bi bx bn bs p x v m k q ov n) (hk : Kept S W W') (hs : ∀ j, (j = bw ∨ j = ba ∨ j = bo ∨ j = bv ∨ j = bi ∨ j = bx ∨ j = bn ∨ j = bs) → ¬ S j) : RB W' bw ba bo bv bi bx bn bs p x v m k q ov n :=
  ⟨hp_kept h.w hk (hs _ (by simp)), hp_kept h.a hk (hs _ (by simp)), hp_kept h.o hk (hs _ (by simp)), hp_kept h.v hk (hs _ (by simp)), hp_kept h.i hk (hs _ (by simp)), hp_kept h.x hk (hs _ (by simp)), hp_kept h.n hk (hs _ (by simp)), hp_kept h.s hk (hs _ (by simp)), h.nov, h.noi, h.nvi⟩
theorem RB.below {W W' : World} {bw ba bo bv bi bx bn bs p : Nat} {x : Sp} {v : Value} {m : Bool} {k : ByteArray} {q ov : Bool} {n : Int} (h : RB W bw ba bo bv bi bx bn bs p x v m k q ov n) (hb : Below W.heap.size W W') : RB W' bw ba bo bv bi bx bn bs p x v m k q ov n := h.kept (Kept.ofBelow hb) (fun _ _ e => e)

theorem RB.nes {W : World} {bw ba bo bv bi bx bn bs p : Nat} {x : Sp} {v : Value} {m : Bool} {k : ByteArray} {q ov : Bool} {n : Int} (h : RB W bw ba bo bv bi bx bn bs p x v m k q ov n) : bw ≠ ba ∧ bw ≠ bo ∧ bw ≠ bv ∧ bw ≠ bi ∧ bw ≠ bx ∧ bw ≠ bn ∧ bw ≠ bs ∧ ba ≠ bo ∧ ba ≠ bv ∧ ba ≠ bi ∧ ba ≠ bx ∧ ba ≠ bn ∧ ba ≠ bs ∧ bo ≠ bv ∧ bo ≠ bi ∧ bo ≠ bx ∧ bo ≠ bn ∧ bo ≠ bs ∧ bv ≠ bi ∧ bv ≠ bx ∧ bv ≠ bn ∧ bv ≠ bs ∧ bi ≠ bx ∧ bi ≠ bn ∧ bi ≠ bs ∧ bx ≠ bn ∧ bx ≠ bs ∧ bn ≠ bs := by
  refine ⟨?_, ?_, ?_, ?_, ?_, ?_, ?_, ?_, ?_, ?_, ?_, ?_, ?_, h.nov, h.noi, ?_, ?_, ?_, h.nvi, ?_, ?_, ?_, ?_, ?_, ?_, ?_, ?_, ?_⟩
  · intro e; subst e; have := h.w; rw [h.a] at this; cases this
  · intro e; subst e; have := h.w; rw [h.o] at this; cases this
  · intro e; subst e; have := h.w; rw [h.v] at this; cases this
  · intro e; subst e; have := h.w; rw [h.i] at this; cases this
  · intro e; subst e; have := h.w; rw [h.x] at this; cases this
  · intro e; subst e; have := h.w; rw [h.n] at this; cases this
  · intro e; subst e; have := h.w; rw [h.s] at this; cases this
  · intro e; subst e; have := h.a; rw [h.o] at this; cases this
  · intro e; subst e; have := h.a; rw [h.v] at this; cases this
  · intro e; subst e; have := h.a; rw [h.i] at this; cases this
  · intro e; subst e; have := h.a; rw [h.x] at this; cases this
  · intro e; subst e; have := h.a; rw [h.n] at this; cases this
  · intro e; subst e; have := h.a; rw [h.s] at this; cases this
  · intro e; subst e; have := h.o; rw [h.x] at this; cases this
  · intro e; subst e; have := h.o; rw [h.n] at this; cases this
  · intro e; subst e; have := h.o; rw [h.s] at this; cases this
  · intro e; subst e; have := h.v; rw [h.x] at this; cases this
  · intro e; subst e; have := h.v; rw [h.n] at this; cases this
  · intro e; subst e; have := h.v; rw [h.s] at this; cases this
  · intro e; subst e; have := h.i; rw [h.x] at this; cases this
  · intro e; subst e; have := h.i; rw [h.n] at this; cases this
  · intro e; subst e; have := h.i; rw [h.s] at this; cases this
  · intro e; subst e; have := h.x; rw [h.n] at this; cases this
  · intro e; subst e; have := h.x; rw [h.s] at this; cases this
  · intro e; subst e; have := h.n; rw [h.s] at this; cases this

/-- A row of the document's never lies in one of the boxes. -/
theorem RB.off {W : World} {bw ba bo bv bi bx bn bs p : Nat} {x : Sp} {v : Value} {m : Bool} {k : ByteArray} {q ov : Bool} {n : Int} (h : RB W bw ba bo bv bi bx bn bs p x v m k q ov n) {u : Value} {l : List Pl} (hr : RL W u l) : ∀ j, u.ownBlock = some j → ¬ (j = bw ∨ j = ba ∨ j = bo ∨ j = bv ∨ j = bi ∨ j = bx ∨ j = bn ∨ j = bs) := by
  intro j hj
  rintro (e | e | e | e | e | e | e | e) <;> subst e
  · exact rl_apart hr hj h.w (by simp)
  · exact rl_apart hr hj h.a (by simp)
  · exact rl_apart hr hj h.o (by simp)
  · exact rl_apart hr hj h.v (by simp)
  · exact rl_apart hr hj h.i (by simp)
  · exact rl_apart hr hj h.x (by simp)
  · exact rl_apart hr hj h.n (by simp)
  · exact rl_apart hr hj h.s (by simp)

end Go.Proofs.Ythjggbcppgbdoaa

namespace Go.Proofs.Ythjggbcppgbdoaa
open Go.RowKit

/-- Behind a turn of ranged. -/
def RgP (bw ba bo bv bi bx bn bs p : Nat) (x : Sp) (m : Bool) (k : ByteArray) (l : List Pl) (F : Nat → Prop) (n : Int) (ov : Bool) (w w' : World) : Prop :=
  ∃ v' F', RB w' bw ba bo bv bi bx bn bs p x v' m (nxP k (turnL x m l)).1 (nxP k (turnL x m l)).2 ov (n + 1) ∧ St w' p v' m (turnL x m l) F' ∧ (∀ j, F' j → F j ∨ w.heap.size ≤ j) ∧ Kept (fun j => F j ∨ (j = bw ∨ j = ba ∨ j = bo ∨ j = bv ∨ j = bi ∨ j = bn)) w w'

set_option maxRecDepth 100000 in
set_option maxHeartbeats 4000000 in
theorem rg67 (bw ba bo bv bi bx bn bs p : Nat) (x : Sp) (v : Value) (m : Bool) (k : ByteArray) (y : Int) (l : List Pl) (F : Nat → Prop) (n : Int) (w : World) (hb : RB w bw ba bo bv bi bx bn bs p x v m k true false n) (hst : St w p v m l F) (hF : ∀ j, (j = bw ∨ j = ba ∨ j = bo ∨ j = bv ∨ j = bi ∨ j = bx ∨ j = bn ∨ j = bs) → ¬ F j) (hg : rgetV k l = (y, true)) (ht : x.to.toList = [] ∨ kl x.to k = false) (hl : l.length ≤ 400000) (hl2 : (turnL x m l).length ≤ 500000) (ho : x.other.size ≤ 281474976710656) (hn0 : 0 ≤ n) (hn1 : n ≤ 200) (ov : Bool) (hov : ov = (decide (n + 1 = x.n) || decide (n + 1 > 200))) :
    Calls Try.prog 67 #[.string k, .int .i64 y, .pointer (some ⟨bw, 0, none⟩), .pointer (some ⟨ba, 0, none⟩), .pointer (some ⟨bo, 0, none⟩), .pointer (some ⟨bv, 0, none⟩), .pointer (some ⟨bi, 0, none⟩), .pointer (some ⟨bx, 0, none⟩), .pointer (some ⟨bn, 0, none⟩), .pointer (some ⟨bs, 0, none⟩)] w fun e w' => e = .returned (.bool (!ov)) ∧ RgP bw ba bo bv bi bx bn bs p x m k l F n ov w w' := by
  obtain ⟨nwa, nwo, nwv, nwi, nwx, nwn, nws, nao, nav, nai, nax, nan, nas, nov, noi, nox, non, nos, nvi, nvx, nvn, nvs, nix, nin, nis, nxn, nxs, nns⟩ := hb.nes
  obtain ⟨ao, cap, e, -, -⟩ := hst.r.1.shape
  subst e
  have fo : w.frozen? ⟨bo, 0, none⟩ = false := free_of_block hb.o
  have fn : w.frozen? ⟨bn, 0, none⟩ = false := free_of_block hb.n
  have offb := hb.off hst.r
  have D1 := hid (show Calls Try.prog 40 #[.agg #[.slice ao l.length cap, .bool m], .string k] w fun e w' => e = .returned (.tuple #[.int .i64 y, .bool true]) ∧ Below w.heap.size w w' from (rget_any _ m l k w hst.r.1 (by omega)).mono (by
    rintro e w' ⟨rfl, h⟩
    rw [hg]
    exact ⟨rfl, h⟩))
  have K2 := hid (show ∀ w1, Below w.heap.size w w1 → Kept (fun j => j = bo ∨ j = bn) w ((w1.setCell ⟨bo, 0, none⟩ (.bool true)).setCell ⟨bn, 0, none⟩ (.int .i64 (n + 1))) from fun w1 h1 => (((Kept.ofBelow h1).mono (S' := fun j => j = bo ∨ j = bn) (fun _ _ e => e.elim)).setCell (p := ⟨bo, 0, none⟩) (fun _ => .inl rfl) _).setCell (p := ⟨bn, 0, none⟩) (fun _ => .inr rfl) _)
  have RB2 := hid (show ∀ w1, Below w.heap.size w w1 → RB ((w1.setCell ⟨bo, 0, none⟩ (.bool true)).setCell ⟨bn, 0, none⟩ (.int .i64 (n + 1))) bw ba bo bv bi bx bn bs p x (.slice ao l.length cap) m k true false (n + 1) from fun w1 h1 => by
    have h := hb.below h1
    exact ⟨hp_set (hp_set h.w nwo _) nwn _, hp_set (hp_set h.a nao _) nan _, hp_set (set_block (i := 0) h.o _) non _, hp_set (hp_set h.v (fun e => nov e.symm) _) nvn _, hp_set (hp_set h.i (fun e => noi e.symm) _) nin _, hp_set (hp_set h.x (fun e => nox e.symm) _) nxn _, set_block (i := 0) (hp_set h.n (fun e => non e.symm) _) _, hp_set (hp_set h.s (fun e => nos e.symm) _) (fun e => nns e.symm) _, nov, noi, nvi⟩)
  have T2 := hid (show ∀ w1, Below w.heap.size w w1 → _ from fun w1 h1 => turn_any x p (.slice ao l.length cap) m l F _ (hst.kept (K2.out w1 h1) (fun j hj e => e.elim (fun e => hF j (by simp [e]) hj) (fun e => hF j (by simp [e]) hj)) (fun j hj e => offb j hj (e.elim (fun e => by simp [e]) (fun e => by simp [e])))) (by omega) ho)
  have HB := hid hb
  have HF := hid hF
  have HL2 := hid hl2
  have HFL := hid hst.fl
  obtain ⟨xk, xv, xn, key, to, oth⟩ := x
  simp only at T2 ht hov
  have HN := hid (show ∀ u W, RL W u (turnL ⟨xk, xv, xn, key, to, oth⟩ m l) → _ from fun u W hr => dnext u m (turnL ⟨xk, xv, xn, key, to, oth⟩ m l) k W hr (by omega))
  unfold RgP
  generalize turnL ⟨xk, xv, xn, key, to, oth⟩ m l = l' at T2 HN HL2 ⊢
  generalize nxP k l' = nn at HN ⊢
  obtain ⟨nk, nq⟩ := nn
  simp only at HN ⊢
  obtain ⟨c0, c1⟩ := cells2 hb.w
  have c2 := cells1 hb.a
  have hto : ((to.toList == []) = true) ∨ ((to.toList == []) = false ∧ (Op.bytesLess k.toList to.toList || (k.toList == to.toList)) = true) := by
    cases h0 : (to.toList == [])
    · refine .inr ⟨rfl, ?_⟩
      rw [leq_eq]
      rcases ht with ht | ht
      · rw [ht] at h0; simp at h0
      · rw [ht]; rfl
    · exact .inl rfl
  have hnw : IntKind.i64.wrap (n + 1) = n + 1 := by rw [IntKind.wrap_i64]; omega
  have hoo : ((n + 1 == xn) = true ∧ ov = true) ∨ ((n + 1 == xn) = false ∧ decide (200 < n + 1) = true ∧ ov = true) ∨ ((n + 1 == xn) = false ∧ decide (200 < n + 1) = false ∧ ov = false) := by
    by_cases h1 : n + 1 = xn
    · exact .inl ⟨by simp [h1], by simp [hov, h1]⟩
    · by_cases h2 : n + 1 > 200
      · exact .inr (.inl ⟨by simp [h1], by simp [h2], by simp only [hov, h1, h2]; rfl⟩)
      · exact .inr (.inr ⟨by simp [h1], by simp; omega, by simp only [hov, h1, h2]; rfl⟩)
  clear hb hst hF hg ht hl hl2 ho hov offb hn0 hn1
  rcases hto with b0 | ⟨b0, b1⟩ <;> rcases hoo with ⟨h1, rfl⟩ | ⟨h1, h2, rfl⟩ | ⟨h1, h2, rfl⟩
  all_goals
    go_enter Try.func67, Try.ntmps67
    go_upto_region 4 with (
      go_at_call 40
      refine D1.out.mono ?_
      rintro e w1 ⟨rfl, hb⟩
      have B1 := hid hb
      have H1 := hid (HB.out.below hb)
      have d2 := cells1 H1.out.a
      have d3 := cells1 H1.out.o
      have d4 := cells1 H1.out.v
      have d5 := cells1 H1.out.i
      obtain ⟨x0, x1, x2, x3, x4, x5⟩ : w1.cell? ⟨bx, 0, none⟩ = some (.int .i64 xk) ∧ w1.cell? ⟨bx, 1, none⟩ = some (.int .i64 xv) ∧ w1.cell? ⟨bx, 2, none⟩ = some (.int .i64 xn) ∧ w1.cell? ⟨bx, 3, none⟩ = some (.string key) ∧ w1.cell? ⟨bx, 4, none⟩ = some (.string to) ∧ w1.cell? ⟨bx, 5, none⟩ = some (.string oth) := cells6 H1.out.x
      have d7 := cells1 H1.out.n
      have fo : w1.frozen? ⟨bo, 0, none⟩ = false := free_of_block H1.out.o
      have fn : w1.frozen? ⟨bn, 0, none⟩ = false := free_of_block H1.out.n
      clear hb D1 c0 c1 c2)
    have H2 := hid (RB2.out w1 B1.out)
    have Q2 := hid (K2.out w1 B1.out)
    have T3 := hid (T2.out w1 B1.out)
    clear RB2 K2 T2 H1 x0 x1 x2 x3 x4 x5 d2 d3 d4 d5 d7 fo fn
    generalize (w1.setCell ⟨bo, 0, none⟩ (.bool true)).setCell ⟨bn, 0, none⟩ (.int .i64 (n + 1)) = W2 at H2 Q2 T3 ⊢
    obtain ⟨x0, x1, x2, x3, x4, x5⟩ : W2.cell? ⟨bx, 0, none⟩ = some (.int .i64 xk) ∧ W2.cell? ⟨bx, 1, none⟩ = some (.int .i64 xv) ∧ W2.cell? ⟨bx, 2, none⟩ = some (.int .i64 xn) ∧ W2.cell? ⟨bx, 3, none⟩ = some (.string key) ∧ W2.cell? ⟨bx, 4, none⟩ = some (.string to) ∧ W2.cell? ⟨bx, 5, none⟩ = some (.string oth) := cells6 H2.out.x
    obtain ⟨d0, d1⟩ := cells2 H2.out.w
    have d8 := cells1 H2.out.s
    go_upto_region 5 with (
      go_at_call 68
      refine T3.out.mono ?_
      rintro e w3 ⟨v', rfl, F', hS, hG, hK⟩
      obtain ⟨ao2, cap2, eu, -, -⟩ := hS.r.1.shape
      generalize (_ : List Pl).length = n2 at eu
      subst eu
      have S3 := hid hS
      have G3 := hid hG
      have K3 := hid hK
      have H3 := hid (H2.out.kept hK HF.out)
      obtain ⟨e0, e1⟩ := cells2 H3.out.w
      have fw : ∀ j, w3.frozen? ⟨bw, j, none⟩ = false := fun j => free_of_block H3.out.w
      clear hS hG hK T3 x0 x1 x2 x3 x4 x5 d0 d1 d8)
    have H4 := hid (show RB ((w3.setCell ⟨bw, 0, none⟩ (.slice ao2 n2 cap2)).setCell ⟨bw, 1, none⟩ (.bool m)) bw ba bo bv bi bx bn bs p ⟨xk, xv, xn, key, to, oth⟩ (.slice ao2 n2 cap2) m k true false (n + 1) from
      ⟨set2 H3.out.w _ _, hp_set (hp_set H3.out.a (fun e => nwa e.symm) _) (fun e => nwa e.symm) _, hp_set (hp_set H3.out.o (fun e => nwo e.symm) _) (fun e => nwo e.symm) _, hp_set (hp_set H3.out.v (fun e => nwv e.symm) _) (fun e => nwv e.symm) _, hp_set (hp_set H3.out.i (fun e => nwi e.symm) _) (fun e => nwi e.symm) _, hp_set (hp_set H3.out.x (fun e => nwx e.symm) _) (fun e => nwx e.symm) _, hp_set (hp_set H3.out.n (fun e => nwn e.symm) _) (fun e => nwn e.symm) _, hp_set (hp_set H3.out.s (fun e => nws e.symm) _) (fun e => nws e.symm) _, nov, noi, nvi⟩)
    have K4 := hid (show Kept (fun j => j = bw) w3 ((w3.setCell ⟨bw, 0, none⟩ (.slice ao2 n2 cap2)).setCell ⟨bw, 1, none⟩ (.bool m)) from ((Kept.refl (fun j => j = bw) w3).setCell (p := ⟨bw, 0, none⟩) (fun _ => rfl) _).setCell (p := ⟨bw, 1, none⟩) (fun _ => rfl) _)
    have NF := hid (show ∀ j, (j = bw ∨ j = ba ∨ j = bo ∨ j = bv ∨ j = bi ∨ j = bx ∨ j = bn ∨ j = bs) → ¬ F' j from fun j hj hf => (G3.out j hf).elim (HF.out j hj) (fun q => by
      have e1 := Q2.out.size
      have e2 : j < w.heap.size := by
        have h0 := HB.out
        rcases hj with e | e | e | e | e | e | e | e <;> subst e
        · exact hp_lt h0.w
        · exact hp_lt h0.a
        · exact hp_lt h0.o
        · exact hp_lt h0.v
        · exact hp_lt h0.i
        · exact hp_lt h0.x
        · exact hp_lt h0.n
        · exact hp_lt h0.s
      omega))
    have S4 := hid (S3.out.kept K4.out (fun j hj e => NF.out j (by simp [e]) hj) (fun j hj e => H3.out.off S3.out.r j hj (by simp [e])))
    have D5 := hid (HN.out _ _ S4.out.r)
    clear HN e0 e1 fw S3 H3
    generalize (w3.setCell ⟨bw, 0, none⟩ (.slice ao2 n2 cap2)).setCell ⟨bw, 1, none⟩ (.bool m) = W4 at H4 K4 S4 D5 ⊢
    obtain ⟨d0, d1⟩ := cells2 H4.out.w
    have d2 := cells1 H4.out.a
    go_upto_region 6 with (
      go_at_call 41
      refine D5.out.mono ?_
      rintro e w5 ⟨rfl, hb⟩
      have B5 := hid hb
      have H5 := hid (H4.out.below hb)
      have e2 := cells1 H5.out.a
      have e5 := cells1 H5.out.i
      have fa : w5.frozen? ⟨ba, 0, none⟩ = false := free_of_block H5.out.a
      have fi : w5.frozen? ⟨bi, 0, none⟩ = false := free_of_block H5.out.i
      clear hb D5 d0 d1 d2)
    have H6 := hid (show RB ((w5.setCell ⟨ba, 0, none⟩ (.string nk)).setCell ⟨bi, 0, none⟩ (.bool nq)) bw ba bo bv bi bx bn bs p ⟨xk, xv, xn, key, to, oth⟩ (.slice ao2 n2 cap2) m nk nq false (n + 1) from
      ⟨hp_set (hp_set H5.out.w nwa _) nwi _, hp_set (set_block (i := 0) H5.out.a _) nai _, hp_set (hp_set H5.out.o (fun e => nao e.symm) _) noi _, hp_set (hp_set H5.out.v (fun e => nav e.symm) _) nvi _, set_block (i := 0) (hp_set H5.out.i (fun e => nai e.symm) _) _, hp_set (hp_set H5.out.x (fun e => nax e.symm) _) (fun e => nix e.symm) _, hp_set (hp_set H5.out.n (fun e => nan e.symm) _) (fun e => nin e.symm) _, hp_set (hp_set H5.out.s (fun e => nas e.symm) _) (fun e => nis e.symm) _, nov, noi, nvi⟩)
    have K6 := hid (show Kept (fun j => j = ba ∨ j = bi) W4 ((w5.setCell ⟨ba, 0, none⟩ (.string nk)).setCell ⟨bi, 0, none⟩ (.bool nq)) from (((Kept.ofBelow B5.out).mono (S' := fun j => j = ba ∨ j = bi) (fun _ _ e => e.elim)).setCell (p := ⟨ba, 0, none⟩) (fun _ => .inl rfl) _).setCell (p := ⟨bi, 0, none⟩) (fun _ => .inr rfl) _)
    clear e2 e5 fa fi H5 B5
    generalize (w5.setCell ⟨ba, 0, none⟩ (.string nk)).setCell ⟨bi, 0, none⟩ (.bool nq) = W6 at H6 K6 ⊢
    obtain ⟨x0, x1, x2, x3, x4, x5⟩ : W6.cell? ⟨bx, 0, none⟩ = some (.int .i64 xk) ∧ W6.cell? ⟨bx, 1, none⟩ = some (.int .i64 xv) ∧ W6.cell? ⟨bx, 2, none⟩ = some (.int .i64 xn) ∧ W6.cell? ⟨bx, 3, none⟩ = some (.string key) ∧ W6.cell? ⟨bx, 4, none⟩ = some (.string to) ∧ W6.cell? ⟨bx, 5, none⟩ = some (.string oth) := cells6 H6.out.x
    have d3 := cells1 H6.out.o
    have d4 := cells1 H6.out.v
    have d7 := cells1 H6.out.n
    have fv : W6.frozen? ⟨bv, 0, none⟩ = false := free_of_block H6.out.v
    go_wp2_with fail
    go_ret
    have KA : Kept (fun j => F j ∨ (j = bw ∨ j = ba ∨ j = bo ∨ j = bv ∨ j = bi ∨ j = bn)) w W6 := by
      have k1 := Q2.out.mono (S' := fun j => F j ∨ (j = bw ∨ j = ba ∨ j = bo ∨ j = bv ∨ j = bi ∨ j = bn)) (fun i _ e => by rcases e with e | e <;> simp [e])
      have k2 := k1.trans K3.out (fun i _ e => .inl e)
      have k3 := k2.trans K4.out (fun i _ e => by simp [e])
      exact k3.trans K6.out (fun i _ e => by rcases e with e | e <;> simp [e])
    have h6 := H6.out
    refine ⟨rfl, _, F', ⟨hp_set h6.w nwv _, hp_set h6.a nav _, hp_set h6.o nov _, set_block (i := 0) h6.v _, hp_set h6.i (fun e => nvi e.symm) _, hp_set h6.x (fun e => nvx e.symm) _, hp_set h6.n (fun e => nvn e.symm) _, hp_set h6.s (fun e => nvs e.symm) _, nov, noi, nvi⟩, ?_, ?_, KA.setCell (p := ⟨bv, 0, none⟩) (fun _ => by simp) _⟩
    · have k7 : ∀ u, Kept (fun j => j = ba ∨ j = bi ∨ j = bv) W4 (W6.setCell ⟨bv, 0, none⟩ u) := fun u => (K6.out.mono (S' := fun j => j = ba ∨ j = bi ∨ j = bv) (fun i _ e => by rcases e with e | e <;> simp [e])).setCell (p := ⟨bv, 0, none⟩) (fun _ => by simp) _
      exact S4.out.kept (k7 _) (fun j hj e => NF.out j (by rcases e with e | e | e <;> simp [e]) hj) (fun j hj e => H4.out.off S4.out.r j hj (by rcases e with e | e | e <;> simp [e]))
    · exact fun j hj => (G3.out j hj).imp (fun e => e) (fun q => by have := Q2.out.size; omega)

end Go.Proofs.Ythjggbcppgbdoaa
