import Derived.Test.YthcoigbkdbkojabGreatK05
import Derived.Shelf.Abstract
set_option maxRecDepth 100000
namespace Go.Proofs.YthcoigbkdbkojabGreat.V
open Go.RowKit
theorem lay_keep (s : Sd) (v : Pd) (h : Bool) : (s.lay v h).has (s.lay v h).r = h := by
  obtain ⟨c0, c1, h0, h1, r, w⟩ := s
  cases w <;> rfl
theorem lay_copy (s : Sd) (v : Pd) (h : Bool) : (s.lay v h).copy (s.lay v h).r = v := by
  obtain ⟨c0, c1, h0, h1, r, w⟩ := s
  cases w <;> rfl
theorem ent_of_mem : ∀ {l : List En}, Rises l → ∀ {e : En}, e ∈ l → ent e.2.1 l = some e
  | [], _, _, h => by cases h
  | a :: l, hr, e, h => by
    have hr' := List.pairwise_cons.1 hr
    unfold ent
    rw [List.find?_cons]
    rcases List.mem_cons.1 h with rfl | h1
    · simp
    · have hk := hr'.1 e h1
      have : (a.2.1.toList == e.2.1.toList) = false := keq_false (kl_ne hk)
      rw [this]
      exact ent_of_mem hr'.2 h1
def rdS (s : Sd) : Pd := s.copy s.r
def updG (g : ByteArray → Option Pd) (key : ByteArray) (v : Pd) : ByteArray → Option Pd := fun k => if k = key then some v else g k
structure PV (w : World) (p : Nat) (g : ByteArray → Option Pd) (m : Bool) (n B : Nat) : Prop where
  ex : ∃ t f c, ZS w p t f c m ∧ (0 ≤ c ∧ c ≤ (n : Int)) ∧ t.n ≤ n ∧ (∀ e ∈ t.toL, (f (bk e.2.2)).has (f (bk e.2.2)).r = true) ∧ (∀ key, (ent key t.toL).map (fun e => rdS (f (bk e.2.2))) = g key) ∧
    B ≤ p ∧ (∀ j ∈ t.bs, B ≤ j) ∧ (∀ e ∈ t.toL, B ≤ bk e.2.2)
theorem PV.below {w w' : World} {p : Nat} {g : ByteArray → Option Pd} {m : Bool} {n B : Nat} (h : PV w p g m n B) (hb : Below w.heap.size w w') : PV w' p g m n B := by
  obtain ⟨t, f, c, hz, hr⟩ := h.ex
  exact ⟨⟨t, f, c, hz.below hb, hr⟩⟩
theorem pput (p : Nat) (key : ByteArray) (v : Pd) (g : ByteArray → Option Pd) (m : Bool) (n B : Nat) (w : World) (h : PV w p g m n B) (hB : B ≤ w.heap.size) (hn : n ≤ 500000) (hk : key.size ≤ 281474976710656) :
    Calls Tryz.prog 24 #[.pointer (some ⟨p, 0, none⟩), .string key, v.agg] w fun x w' => x = .returned (.tuple #[]) ∧ PV w' p (updG g key v) m (n + 1) B ∧ Kept (fun j => B ≤ j) w w' := by
  obtain ⟨t, f, c, hz, hc, hn1, hs, hg, b1, b2, b3⟩ := h.ex
  cases hq : ent key t.toL with
  | none =>
    refine (sput_new p key v t f c m w hz ⟨hc.1, by omega⟩ (by omega) hk hq).mono ?_
    rintro x w' ⟨rfl, t', b, n', hb, hl', hz', hk', hnw⟩
    have hperm := ins_perm (n', key, Value.pointer (some ⟨b, 0, none⟩)) t.toL
    have hmem : ∀ e, e ∈ t'.toL ↔ e = (n', key, Value.pointer (some ⟨b, 0, none⟩)) ∨ e ∈ t.toL := fun e => by rw [hl', hperm.mem_iff, List.mem_cons]
    have hlt := (hz.lt).2.2
    have hne : ∀ e ∈ t.toL, bk e.2.2 ≠ b := fun e he e3 => by have := hlt e he; omega
    have fo : ∀ e ∈ t.toL, updF (updF f b s0) b (s0.lay v true) (bk e.2.2) = f (bk e.2.2) := fun e he => by unfold updF; rw [if_neg (hne e he), if_neg (hne e he)]
    have fn : updF (updF f b s0) b (s0.lay v true) (bk (Value.pointer (some ⟨b, 0, none⟩))) = s0.lay v true := by unfold updF; rw [show bk (Value.pointer (some ⟨b, 0, none⟩)) = b from rfl, if_pos rfl]
    refine ⟨rfl, ⟨t', _, _, hz', ⟨by omega, by omega⟩, ?_, ?_, ?_, b1, ?_, ?_⟩, hk'.mono (fun j _ e => e.elim (fun e => by rw [e]; exact b1) (b2 j))⟩
    · have : t'.n = t.n + 1 := by
        unfold Tr.n
        rw [hl', hperm.length_eq, List.length_cons]
      omega
    · intro e he
      rcases (hmem e).1 he with rfl | h1
      · show (updF _ _ _ (bk (Value.pointer (some ⟨b, 0, none⟩)))).has _ = true
        rw [fn]
        exact lay_keep _ _ _
      · rw [fo e h1]
        exact hs e h1
    · intro k
      unfold updG
      by_cases hkk : k = key
      · subst hkk
        rw [if_pos rfl]
        have := ent_of_mem hz'.tb.rs ((hmem _).2 (.inl rfl))
        rw [show ent k t'.toL = _ from this]
        show some (rdS (updF _ _ _ (bk (Value.pointer (some ⟨b, 0, none⟩))))) = _
        rw [fn]
        unfold rdS
        rw [lay_copy]
      · rw [if_neg hkk, ← hg k]
        cases hq2 : ent k t.toL with
        | none =>
          cases hq3 : ent k t'.toL with
          | none => rfl
          | some e =>
            obtain ⟨h1, h2⟩ := ent_some hq3
            rcases (hmem e).1 h1 with rfl | h3
            · exact absurd h2.symm hkk
            · exact absurd h2 (ent_none hq2 e h3)
        | some e =>
          obtain ⟨h1, h2⟩ := ent_some hq2
          have := ent_of_mem hz'.tb.rs ((hmem e).2 (.inr h1))
          rw [h2] at this
          rw [this]
          show some (rdS _) = some (rdS _)
          rw [fo e h1]
    · intro j hj
      rcases hnw j hj with h1 | h1
      · exact b2 j h1
      · omega
    · intro e he
      rcases (hmem e).1 he with rfl | h1
      · show B ≤ b
        omega
      · exact b3 e h1
  | some e0 =>
    obtain ⟨b, hb, hsl⟩ := hz.sl e0 (ent_some hq).1
    refine (sput_has p key v t f c m w e0 b hz ⟨hc.1, by omega⟩ hq hb).mono ?_
    rintro x w' ⟨rfl, hz', hk'⟩
    have hm0 := (ent_some hq).1
    have hnd := nd_inj hz.nd
    have hbk : bk e0.2.2 = b := by rw [hb]; rfl
    have hne : ∀ e ∈ t.toL, e ≠ e0 → bk e.2.2 ≠ b := fun e hm hn2 e3 => by
      obtain ⟨b1', q1, -⟩ := hz.sl e hm
      refine hn2 (hnd e hm e0 hm0 ?_)
      rw [q1] at e3 ⊢
      rw [hb]
      have : b1' = b := e3
      rw [this]
    have fo : ∀ e ∈ t.toL, e ≠ e0 → updF f b ((f b).lay v true) (bk e.2.2) = f (bk e.2.2) := fun e he hn2 => by unfold updF; rw [if_neg (hne e he hn2)]
    have fn : updF f b ((f b).lay v true) (bk e0.2.2) = (f b).lay v true := by unfold updF; rw [hbk, if_pos rfl]
    refine ⟨rfl, ⟨t, _, _, hz', ?_, by omega, ?_, ?_, b1, b2, b3⟩, hk'.mono (fun j _ e => e.elim (fun e => by rw [e]; exact b1) (fun e => by rw [e, ← hbk]; exact b3 e0 hm0))⟩
    · cases (f b).has (f b).r
      · simp only [Bool.false_eq_true, if_false]; omega
      · simp only [if_true]; omega
    · intro e he
      by_cases h1 : e = e0
      · subst h1
        rw [fn]
        exact lay_keep _ _ _
      · rw [fo e he h1]
        exact hs e he
    · intro k
      unfold updG
      by_cases hkk : k = key
      · subst hkk
        rw [if_pos rfl, hq]
        show some (rdS _) = _
        rw [fn]
        unfold rdS
        rw [lay_copy]
      · rw [if_neg hkk, ← hg k]
        cases hq2 : ent k t.toL with
        | none => rfl
        | some e =>
          obtain ⟨h1, h2⟩ := ent_some hq2
          show some (rdS _) = some (rdS _)
          rw [fo e h1 (fun e3 => hkk (by rw [← h2, e3]; exact (ent_some hq).2))]
theorem pget (p : Nat) (key : ByteArray) (g : ByteArray → Option Pd) (m : Bool) (n B : Nat) (w : World) (h : PV w p g m n B) :
    Calls Tryz.prog 30 #[.pointer (some ⟨p, 0, none⟩), .string key] w fun x w' => (∃ (r : Pd) (q : Bool), x = .returned (.tuple #[r.agg, .bool q]) ∧ Hid (∀ v, g key = some v → r = v ∧ q = true)) ∧ Hid (Below w.heap.size w w') := by
  obtain ⟨t, f, c, hz, hc, hn1, hs, hg, b1, b2, b3⟩ := h.ex
  refine (sget_any p key t f c m w hz).mono ?_
  rintro x w' ⟨rfl, hb⟩
  refine ⟨⟨_, _, rfl, hid (fun v hv => ?_)⟩, hid hb⟩
  have := hg key
  rw [hv] at this
  cases hq : ent key t.toL with
  | none => rw [hq] at this; cases this
  | some e0 =>
    obtain ⟨b, hb, hsl⟩ := hz.sl e0 (ent_some hq).1
    rw [hq] at this
    injection this with this
    unfold zget
    rw [hq]
    simp only [hb]
    have hbk : bk e0.2.2 = b := by rw [hb]; rfl
    have this : rdS (f (bk e0.2.2)) = v := this
    rw [hbk] at this
    have hh := hs e0 (ent_some hq).1
    rw [hbk] at hh
    exact ⟨this, hh⟩
set_option maxHeartbeats 800000 in
theorem pnew (w : World) : Calls Tryz.prog 23 #[] w fun x w' => x = .returned (.pointer (some ⟨w.heap.size, 0, none⟩)) ∧ Hid (PV w' w.heap.size (fun _ => none) false 0 w.heap.size ∧ Below w.heap.size w w') := by
  go_enter Tryz.func23, Tryz.ntmps23
  go_wp2
  go_ret
  exact ⟨rfl, hid ⟨⟨.nil, fun _ => s0, 0, ⟨⟨hp_new w _, trivial, List.Pairwise.nil, List.Pairwise.nil⟩, fun e he => (by cases he), List.Pairwise.nil, fun e he => (by cases he)⟩, ⟨by decide, by decide⟩, by decide, fun e he => (by cases he), fun _ => rfl, Nat.le_refl _, fun j hj => (by cases hj), fun e he => (by cases he)⟩, below_new _ _⟩⟩
structure RangeI (B : Nat) (o : Option Addr) (frm to : ByteArray) (g1 g2 g3 : Nat) (I : Nat → Nat → Nat → Nat → Bool → ByteArray → Tr → World → Prop) (Ix : World → Prop) : Prop where
  tb : ∀ {gf gl gt m st last t w}, I gf gl gt m st last t w → TO w o t ∧ Short t
  it : ∀ {gf gl gt m st last t w}, I gf gl gt m st last t w → It w g1 g2 g3 o frm to
  keep : ∀ {gf gl gt m st last t w w' S}, I gf gl gt m st last t w → Kept S w w' → (∀ k, S k → k = gf ∨ k = gl ∨ k = gt ∨ (B ≤ k ∧ ∃ ob : Obj, w.heap[k]? = some ob ∧ ob.isCells = false)) → I gf gl gt m st last t w'
  keepx : ∀ {w w' S}, Ix w → Kept S w w' → (∀ k, S k → B ≤ k ∧ ∃ ob : Obj, w.heap[k]? = some ob ∧ ob.isCells = false) → Ix w'
def RangePost (B gf gl gt m : Nat) (k : ByteArray) (I : Nat → Nat → Nat → Nat → Bool → ByteArray → Tr → World → Prop) (Ix : World → Prop) (W : World) : Exit → Act → World → Prop
  | .normal, _, W' => KeepsFrom B W W' ∧ BoxedX gf gl gt W W' ∧ ∃ m' t', m' < m ∧ I gf gl gt m' true k t' W'
  | .ret, _, W' => KeepsFrom B W W' ∧ BoxedX gf gl gt W W' ∧ Ix W'
  | _, _, _ => False
theorem kept_put (W : World) (l : Nat) (ob : Obj) : Kept (fun j => j = l) W (W.putObj l ob) :=
  (Kept.refl (fun j => j = l) W).grown (grownBy_putObj' W l ob) (fun k _ e => by injection e with e; exact e.symm)
theorem put_off {W : World} {l j : Nat} (ob : Obj) (h : j ≠ l) : (W.putObj l ob).heap[j]? = W.heap[j]? := World.putObj_heap_other h
theorem rangeY {g : Operand} {ps : Array Tmp} {assign body : Code} {Q : Exit → Act → World → Prop} {a : Act} {w : World} {o : Option Addr} {frm to : ByteArray} {g1 g2 g3 : Nat}
    (hg : a.eval g = itV g1 g2 g3) (hps : ps.size = 2) {I : Nat → Nat → Nat → Nat → Bool → ByteArray → Tr → World → Prop} {Ix : World → Prop} (H : RangeI w.heap.size o frm to g1 g2 g3 I Ix) (m0 : Nat) (t0 : Tr) (hi : It w g1 g2 g3 o frm to)
    (h0 : ∀ gf gl gt w1, Below w.heap.size w w1 → w.heap.size ≤ gf → w.heap.size ≤ gl → w.heap.size ≤ gt → SB w1 gf gl gt o false frm → I gf gl gt m0 false frm t0 w1)
    (a1 : ByteArray → Value → Act)
    (hassign : ∀ (n l : Nat) (k : ByteArray) (v : Value) (W : World) (K : Act → World → Prop), K (a1 k v) W →
      assign.wpIn (Fence.wide.inRound l) n Tryz.prog (Exit.then K (fun _ _ _ => False)) { tmps := (ps.zip #[.string k, v]).foldl (fun t (p, u) => t.setIfInBounds p u) a.tmps, defers := [] } W)
    (hbody : ∀ (n l gf gl gt m : Nat) (st : Bool) (last : ByteArray) (t : Tr) (W : World) (b : Nat) (k : ByteArray) (v : Value), I gf gl gt m st last t W → nx st last t.toL = some (b, k, v) → (to = ⟨#[]⟩ ∨ kl to k = false) → 
      body.wpIn (Fence.wide.inRound l) n Tryz.prog (RangePost w.heap.size gf gl gt m k I Ix W) (a1 k v) W)
    (hdone : ∀ (D : Nat) (W : World) (gf gl gt m : Nat) (st : Bool) (last : ByteArray) (t : Tr), w.heap.size ≤ D → I gf gl gt m st last t W → Ended to st last t.toL → W.heap[D]? = some (.deferred (some [])) → Q .normal { a with defers := { target := .collected D, args := #[] } :: a.defers } W)
    (hstop : ∀ (D : Nat) (W : World), w.heap.size ≤ D → Ix W → W.heap[D]? = some (.deferred (some [])) → Q .ret { a with defers := { target := .collected D, args := #[] } :: a.defers } W) :
    (Code.rangeFunc g ps assign body).wp Tryz.prog Q a w := by
  refine (wpIn_wide (n := 9)).1 (wpIn_rangeFunc ?_)
  intro fn hfn
  obtain ⟨rc, hrc⟩ : ∃ rc : LoopState → Option Code → Loop, rc = fun st pe => { state := st, pending := pe, fn, tmps := a.tmps, params := ps, assign, body, defers := w.heap.size } := ⟨_, rfl⟩
  obtain ⟨L, hL⟩ : ∃ L, L = w.heap.size + 1 := ⟨_, rfl⟩
  obtain ⟨W1, hW1⟩ : ∃ W1, W1 = (w.alloc (.deferred (some []))).alloc (.loop (rc .ready none)) := ⟨_, rfl⟩
  have hsz : W1.heap.size = w.heap.size + 2 := by rw [hW1]; simp
  have hb1 : Below w.heap.size w W1 := by rw [hW1]; exact ((below_new w _)).alloc (by simp) _
  have hD1 : W1.heap[w.heap.size]? = some (.deferred (some [])) := by rw [hW1]; exact hp_alloc (hp_new w _) _
  have hL1 : W1.heap[L]? = some (.loop (rc .ready none)) := by
    rw [hW1, hL]
    have := hp_new (w.alloc (.deferred (some []))) (.loop (rc .ready none))
    rwa [World.size_alloc] at this
  refine ⟨L, [{ target := .collected w.heap.size, args := #[] }], W1, { target := .fn (.func 112) #[.pointer (some ⟨g1, 0, none⟩), .pointer (some ⟨g2, 0, none⟩), .pointer (some ⟨g3, 0, none⟩)], args := #[.func (.yield L) #[] #[]] }, W1, 112,
    #[.func (.yield L) #[] #[], .pointer (some ⟨g1, 0, none⟩), .pointer (some ⟨g2, 0, none⟩), .pointer (some ⟨g3, 0, none⟩)], W1, ?_, ?_, ?_, ?_, ?_, callsIn_wide.2 ?_⟩
  · rw [hW1, hL, hrc]
    exact run_enterLoop_outer _ _ _ _ _
  · simp only [resolve, hg]
    simp [go_sem]
  · intro f' _
    exact trivial
  · simp [invoke, go_sem]
  · intro hd
    cases hd
  · have HB : BodyY L o frm to g1 g2 g3
        (fun gf gl gt m st last t W => I gf gl gt m st last t W ∧ W.heap[L]? = some (.loop (rc .ready none)) ∧ W.heap[w.heap.size]? = some (.deferred (some [])) ∧ (∀ j, j = gf ∨ j = gl ∨ j = gt → L < j))
        (fun W => Ix W ∧ W.heap[L]? = some (.loop (rc .done (some .ret))) ∧ W.heap[w.heap.size]? = some (.deferred (some []))) := by
      refine ⟨fun h => H.tb h.1, fun h => H.it h.1, ?_, ?_⟩
      · intro gf gl gt m st last t A B S h hk hS
        refine ⟨H.keep h.1 hk (fun k hk' => ?_), ?_, ?_, h.2.2.2⟩
        · rcases hS k hk' with e | e | e
          · exact .inl e
          · exact .inr (.inl e)
          · exact .inr (.inr (.inl e))
        · exact hp_kept h.2.1 hk (fun e => by have := h.2.2.2 _ (hS _ e); omega)
        · exact hp_kept h.2.2.1 hk (fun e => by have := h.2.2.2 _ (hS _ e); omega)
      · intro gf gl gt m st last t W b k v h hq hc n'
        obtain ⟨hI, hl, hd, ho⟩ := h
        have hy := run_yield (P := Tryz.prog) (args := #[.string k, v]) hl (by rw [hrc]; exact hps.symm)
        rw [hrc] at hy
        refine ⟨fn, _, assign, body, hy, ?_⟩
        refine roundIn_of_wpIn trivial (hassign n' L k v W _ ?_)
        obtain ⟨W2, hW2⟩ : ∃ W2, W2 = W.putObj L (.loop { rc .ready none with state := .busy }) := ⟨_, rfl⟩
        have hLl : L < W.heap.size := hp_lt hl
        have hl2 : W2.heap[L]? = some (.loop { rc .ready none with state := .busy }) := by rw [hW2]; exact World.putObj_heap_same hLl
        have hd2 : W2.heap[w.heap.size]? = some (.deferred (some [])) := by rw [hW2, put_off _ (by omega)]; exact hd
        have k2 : Kept (fun j => j = L) W W2 := by rw [hW2]; exact kept_put _ _ _
        have hI2 := H.keep hI k2 (fun j e => .inr (.inr (.inr ⟨by subst e; omega, _, by subst e; exact hl, rfl⟩)))
        refine ⟨W2, by rw [hW2]; exact run_beginRound hl (by rw [hrc]), wpIn_mono (hbody n' L gf gl gt m st last t W2 b k v hI2 hq hc) ?_⟩
        have FIN : ∀ (jump : Option Code) (W3 : World), KeepsFrom w.heap.size W2 W3 → BoxedX gf gl gt W2 W3 → ∃ W4, (Instr.endRound L jump).run Tryz.prog W3 = .ok (.bool jump.isNone) W4 ∧ Kept (fun j => j = L) W3 W4 ∧ W3.heap[L]? = some (.loop { rc .ready none with state := .busy }) ∧
            W4.heap[L]? = some (.loop (rc (if jump.isNone then .ready else .done) jump)) ∧ W4.heap[w.heap.size]? = some (.deferred (some [])) ∧ BoxedX gf gl gt W W4 := by
          intro jump W3 hk3 hbx
          have hl3 := hk3.same _ _ (by omega) hl2 rfl
          have hd3 := hk3.same _ _ (Nat.le_refl _) hd2 rfl
          have hr := run_endRound (P := Tryz.prog) jump hl3
          refine ⟨_, hr, kept_put _ _ _, hl3, ?_, ?_, ?_⟩
          · rw [World.putObj_heap_same (hp_lt hl3), hrc]
          · rw [put_off _ (by omega)]; exact hd3
          · have e : ∀ j, j = gf ∨ j = gl ∨ j = gt → j ≠ L := fun j hj e => by have := ho j hj; omega
            refine ⟨?_, ?_, ?_⟩
            · rw [put_off _ (e gf (.inl rfl)), hbx.1, hW2, put_off _ (e gf (.inl rfl))]
            · rw [put_off _ (e gl (.inr (.inl rfl))), hbx.2.1, hW2, put_off _ (e gl (.inr (.inl rfl)))]
            · rw [put_off _ (e gt (.inr (.inr rfl))), hbx.2.2, hW2, put_off _ (e gt (.inr (.inr rfl)))]
        intro e a3 W3 hp
        cases e with
        | normal =>
          obtain ⟨hk3, hbx, m', t', hm, hI3⟩ := hp
          obtain ⟨W4, hr, hk4, hl3, hl4, hd4, hb4⟩ := FIN none W3 hk3 hbx
          refine ⟨_, W4, hr, true, rfl, hb4, fun _ => ⟨m', t', hm, H.keep hI3 hk4 (fun j e => .inr (.inr (.inr ⟨by subst e; omega, _, by subst e; exact hl3, rfl⟩))), hl4, hd4, ho⟩, fun e => (by cases e)⟩
        | ret =>
          obtain ⟨hk3, hbx, hx⟩ := hp
          obtain ⟨W4, hr, hk4, hl3, hl4, hd4, hb4⟩ := FIN (some .ret) W3 hk3 hbx
          refine ⟨_, W4, hr, false, rfl, hb4, fun e => (by cases e), fun _ => ⟨H.keepx hx hk4 (fun j e => ⟨by subst e; omega, _, by subst e; exact hl3, rfl⟩), hl4, hd4⟩⟩
        | exit id => exact hp.elim
        | goto t => exact hp.elim
        | panic ch => exact hp.elim
        | outgrown => exact hp.elim
    refine (iterY L HB m0 t0 W1 ?_ ?_).mono ?_
    · intro gf gl gt w1 hb q1 q2 q3 hs
      have hs1 := hsz
      refine ⟨h0 gf gl gt w1 (below_on hb1 hb) (by omega) (by omega) (by omega) hs, hp_below hL1 hb (hp_lt hL1), hp_below hD1 hb (hp_lt hD1), ?_⟩
      rintro j (rfl | rfl | rfl) <;> omega
    · exact ⟨hp_below hi.t hb1 (hp_lt hi.t), hp_below hi.f hb1 (hp_lt hi.f), hp_below hi.e hb1 (hp_lt hi.e)⟩
    · rintro e W2 ⟨rfl, (⟨gf, gl, gt, m, st, last, t, ⟨hI, hl, hd, -⟩, hE⟩ | ⟨hx, hl, hd⟩)⟩
      · refine ⟨none, _, (run_endLoop (P := Tryz.prog) hl (by rw [hrc]; simp)).trans (by rw [hrc]), ?_⟩
        exact hdone w.heap.size _ gf gl gt m st last t (Nat.le_refl _) (H.keep hI (kept_put _ _ _) (fun j e => .inr (.inr (.inr ⟨by subst e; omega, _, by subst e; exact hl, rfl⟩)))) hE (by rw [put_off _ (by omega)]; exact hd)
      · refine ⟨some .ret, _, (run_endLoop (P := Tryz.prog) hl (by rw [hrc]; simp)).trans (by rw [hrc]), ?_⟩
        refine wpIn_ret ?_
        exact hstop w.heap.size _ (Nat.le_refl _) (H.keepx hx (kept_put _ _ _) (fun j e => ⟨by subst e; omega, _, by subst e; exact hl, rfl⟩)) (by rw [put_off _ (by omega)]; exact hd)
def cmg (st : Bool) (last : ByteArray) (e : En) : Bool := if st then kl last e.2.1 else !kl e.2.1 last
def ahd (st : Bool) (last : ByteArray) (l : List En) : Nat := l.countP (cmg st last)
theorem count_less {α : Type} {p q : α → Bool} : ∀ {l : List α} {x : α}, (∀ y ∈ l, p y = true → q y = true) → x ∈ l → q x = true → p x = false → l.countP p < l.countP q
  | [], _, _, h, _, _ => by cases h
  | a :: l, x, hpq, hx, hq, hp => by
    have hle : l.countP p ≤ l.countP q := List.countP_mono_left (fun y hy => hpq y (by simp [hy]))
    rw [List.countP_cons, List.countP_cons]
    rcases List.mem_cons.1 hx with e | hx
    · subst e
      rw [hq, hp]
      simp only [if_true, Bool.false_eq_true, if_false]
      omega
    · have := count_less (fun y hy => hpq y (by simp [hy])) hx hq hp
      have h1 := hpq a (by simp)
      cases h2 : p a <;> cases h3 : q a <;> simp_all <;> omega
theorem nx_cmg (st : Bool) (last : ByteArray) (l : List En) : nx st last l = l.find? (cmg st last) := by
  cases st <;> rfl
theorem find_first {p : En → Bool} {l : List En} {e : En} (hr : Rises l) (h : l.find? p = some e) : e ∈ l ∧ p e = true ∧ ∀ e' ∈ l, p e' = true → e' = e ∨ kl e.2.1 e'.2.1 = true := by
  refine ⟨List.mem_of_find?_eq_some h, List.find?_some h, ?_⟩
  obtain ⟨hp, l1, bs, rfl, has⟩ := List.find?_eq_some_iff_append.1 h
  intro e' he' hp'
  rcases List.mem_append.1 he' with h1 | h1
  · have := has e' h1
    rw [hp'] at this
    cases this
  · rcases List.mem_cons.1 h1 with h2 | h2
    · exact .inl h2
    · right
      have h3 : Rises (e :: bs) := (List.pairwise_append.1 hr).2.1
      exact (List.pairwise_cons.1 h3).1 e' h2
theorem find_is {p : En → Bool} {l : List En} {e : En} (hr : Rises l) (he : e ∈ l) (hp : p e = true) (ho : ∀ e' ∈ l, kl e'.2.1 e.2.1 = true → p e' = false) : l.find? p = some e := by
  cases h : l.find? p with
  | none => exact absurd hp (by rw [List.find?_eq_none] at h; exact h e he)
  | some c =>
    obtain ⟨h1, h2, h3⟩ := find_first hr h
    rcases h3 e he hp with h4 | h4
    · rw [h4]
    · have := ho c h1 h4
      rw [h2] at this
      cases this
theorem cmg_up {st : Bool} {last k : ByteArray} {e : En} (h : (if st then kl last k else !kl k last) = true) (hk : kl k e.2.1 = true) : cmg st last e = true := by
  unfold cmg
  cases st
  · simp only [Bool.false_eq_true, if_false] at h ⊢
    have : kl k last = false := by simpa using h
    simp [kl_asymm (kl_le' this hk)]
  · simp only [if_true] at h ⊢
    exact kl_trans h hk
theorem ahd_less {st : Bool} {last : ByteArray} {l : List En} {b : Nat} {k : ByteArray} {v : Value} (hq : nx st last l = some (b, k, v)) : ahd true k l < ahd st last l := by
  rw [nx_cmg] at hq
  have h1 : cmg st last (b, k, v) = true := List.find?_some hq
  refine count_less (x := (b, k, v)) (fun y _ hy => cmg_up (k := k) h1 hy) (List.mem_of_find?_eq_some hq) h1 ?_
  exact kl_irrefl k
def see (h : Bool) (s : Sd) : Pd × Bool := if h then (s.copy (!s.w), s.has (!s.w)) else (s.copy s.r, s.has s.r)
def fitE (h : Bool) (f : Nat → Sd) (frm to : ByteArray) (e : En) : Bool := !kl e.2.1 frm && ((to.toList == []) || !kl to e.2.1) && (see h (f (bk e.2.2))).2
def leastE (h : Bool) (f : Nat → Sd) (frm to : ByteArray) (l : List En) : Option En := l.find? (fitE h f frm to)
def Passed (h : Bool) (f : Nat → Sd) (frm : ByteArray) (st : Bool) (last : ByteArray) (l : List En) : Prop :=
  (st = false → last = frm) ∧ (st = true → kl last frm = false) ∧ ∀ e ∈ l, kl e.2.1 frm = false → cmg st last e = false → (see h (f (bk e.2.2))).2 = false
theorem passed_start (h : Bool) (f : Nat → Sd) (frm : ByteArray) (l : List En) : Passed h f frm false frm l := by
  refine ⟨fun _ => rfl, fun e => (by cases e), fun e _ h1 h2 => ?_⟩
  unfold cmg at h2
  simp [h1] at h2
theorem nx_from {st : Bool} {last frm k : ByteArray} (h1 : st = false → last = frm) (h2 : st = true → kl last frm = false) (hk : (if st then kl last k else !kl k last) = true) : kl k frm = false := by
  cases st
  · simp only [Bool.false_eq_true, if_false] at hk
    rw [h1 rfl] at hk
    simpa using hk
  · simp only [if_true] at hk
    exact kl_asymm (kl_le' (h2 rfl) hk)
theorem passed_on {h : Bool} {f : Nat → Sd} {frm : ByteArray} {st : Bool} {last : ByteArray} {l : List En} {b : Nat} {k : ByteArray} {v : Value} (hr : Rises l) (hp : Passed h f frm st last l) (hq : nx st last l = some (b, k, v)) (hs : (see h (f (bk v))).2 = false) : Passed h f frm true k l := by
  rw [nx_cmg] at hq
  obtain ⟨h1, h2, h3⟩ := find_first hr hq
  refine ⟨fun e => (by cases e), fun _ => nx_from hp.1 hp.2.1 h2, fun e he h4 h5 => ?_⟩
  cases hc : cmg st last e
  · exact hp.2.2 e he h4 hc
  · rcases h3 e he hc with rfl | h6
    · exact hs
    · unfold cmg at h5
      simp only [if_true] at h5
      rw [h6] at h5
      cases h5
theorem least_found {h : Bool} {f : Nat → Sd} {frm to : ByteArray} {st : Bool} {last : ByteArray} {l : List En} {b : Nat} {k : ByteArray} {v : Value} (hr : Rises l) (hp : Passed h f frm st last l) (hq : nx st last l = some (b, k, v)) (ht : to = ⟨#[]⟩ ∨ kl to k = false) (hs : (see h (f (bk v))).2 = true) : leastE h f frm to l = some (b, k, v) := by
  rw [nx_cmg] at hq
  obtain ⟨h1, h2, h3⟩ := find_first hr hq
  refine find_is hr h1 ?_ ?_
  · unfold fitE
    have e1 : kl k frm = false := nx_from hp.1 hp.2.1 h2
    have e2 : ((to.toList == []) || !kl to k) = true := by
      rcases ht with h | h
      · rw [emp_eq h]; rfl
      · simp [h]
    simp only [e1, e2, hs]
    rfl
  · intro e he hk
    unfold fitE
    cases h4 : kl e.2.1 frm
    · have : cmg st last e = false := by
        cases hc : cmg st last e
        · rfl
        · rcases h3 e he hc with rfl | h6
          · rw [kl_irrefl] at hk; cases hk
          · rw [kl_asymm h6] at hk; cases hk
      rw [hp.2.2 e he h4 this]
      simp
    · simp
theorem least_none {h : Bool} {f : Nat → Sd} {frm to : ByteArray} {st : Bool} {last : ByteArray} {l : List En} (hr : Rises l) (hp : Passed h f frm st last l) (hE : Ended to st last l) : leastE h f frm to l = none := by
  unfold leastE
  rw [List.find?_eq_none]
  intro e he hf
  unfold fitE at hf
  simp only [Bool.and_eq_true, Bool.not_eq_true', Bool.or_eq_true] at hf
  obtain ⟨⟨h1, h2⟩, h3⟩ := hf
  cases hc : cmg st last e
  · rw [hp.2.2 e he h1 hc] at h3; cases h3
  · cases hq : nx st last l with
    | none =>
      rw [nx_cmg, List.find?_eq_none] at hq
      exact absurd hc (hq e he)
    | some c =>
      obtain ⟨b, k, v⟩ := c
      obtain ⟨h4, h5⟩ := hE b k v hq
      rw [nx_cmg] at hq
      obtain ⟨_, _, h6⟩ := find_first hr hq
      rcases h2 with h2 | h2
      · rw [emp_ne h4] at h2; cases h2
      · rcases h6 e he hc with rfl | h7
        · rw [h5] at h2; cases h2
        · rw [kl_trans h5 h7] at h2; cases h2
end Go.Proofs.YthcoigbkdbkojabGreat.V
