import Derived.Test.YthcoigbkdbkojabGreatK15
set_option maxRecDepth 100000
namespace Go.Proofs.YthcoigbkdbkojabGreat
open Go.RowKit Go.MapKept
open V (hp_new hp_lt hp_below hp_alloc kl)
abbrev keyIt (g1 g2 g3 : Nat) : Value := .func (.func 150) #[] #[.pointer (some ⟨g1, 0, none⟩), .pointer (some ⟨g2, 0, none⟩), .pointer (some ⟨g3, 0, none⟩)]
structure RangeKI (B g1 g2 g3 mb : Nat) (frm to : ByteArray) (sv : Vd) (nx : ByteArray → ByteArray) (I : ByteArray → World → Prop) (Ix : World → Prop) : Prop where
  bx : ∀ {k W}, I k W → KB W g1 g2 g3 mb frm to
  keep : ∀ {k W W' S}, I k W → Kept S W W' → (∀ j, S j → B ≤ j ∧ ∃ ob : Obj, W.heap[j]? = some ob ∧ ob.isCells = false) → I k W'
  keepx : ∀ {W W' S}, Ix W → Kept S W W' → (∀ j, S j → B ≤ j ∧ ∃ ob : Obj, W.heap[j]? = some ob ∧ ob.isCells = false) → Ix W'
  ab : ∀ {k W}, I k W → ∀ text : ByteArray, text.size ≤ 1000 → Calls Tryz.prog 105 #[.pointer (some ⟨mb, 0, none⟩), .string text, .string to] W fun e w' => e = .returned (.string (nx text)) ∧ Below W.heap.size W w'
  se : ∀ {k W}, I k W → Calls Tryz.prog 93 #[.pointer (some ⟨mb, 0, none⟩), .string frm] W fun e w' => e = .returned sv.val ∧ Below W.heap.size W w'
def RangeKPost (B : Nat) (nx : ByteArray → ByteArray) (k : ByteArray) (I : ByteArray → World → Prop) (Ix : World → Prop) (W : World) : Exit → Act → World → Prop
  | .normal, _, W' => KeepsFrom B W W' ∧ I (nx k) W'
  | .exit id, _, W' => id = 0 ∧ KeepsFrom B W W' ∧ Ix W'
  | _, _, _ => False
theorem kept_put (W : World) (l : Nat) (ob : Obj) : Kept (fun j => j = l) W (W.putObj l ob) :=
  (Kept.refl (fun j => j = l) W).grown (grownBy_putObj' W l ob) (fun k _ e => by injection e with e; exact e.symm)
theorem put_off {W : World} {l j : Nat} (ob : Obj) (h : j ≠ l) : (W.putObj l ob).heap[j]? = W.heap[j]? := World.putObj_heap_other h
theorem rangeK {g : Operand} {ps : Array Tmp} {assign body : Code} {Q : Exit → Act → World → Prop} {a : Act} {w : World} {g1 g2 g3 mb : Nat} {frm to : ByteArray} {sv : Vd} {nx : ByteArray → ByteArray}
    (hg : a.eval g = keyIt g1 g2 g3) (hps : ps.size = 1) {I : ByteArray → World → Prop} {Ix : World → Prop} (H : RangeKI w.heap.size g1 g2 g3 mb frm to sv nx I Ix)
    (μ : ByteArray → Nat) (hμ : ∀ k, k ≠ emp → nx k ≠ emp → μ (nx k) < μ k) (hm0 : ∀ k, k ≠ emp → μ emp < μ k) (hz : ∀ t, (nx t).size ≤ 1000) (hf : frm.size ≤ 1000)
    (h0 : ∀ w1, Below w.heap.size w w1 → I (fkey frm sv nx) w1)
    (a1 : ByteArray → Act)
    (hassign : ∀ (n l : Nat) (k : ByteArray) (W : World) (K : Act → World → Prop), K (a1 k) W →
      assign.wpIn (Fence.wide.inRound l) n Tryz.prog (Exit.then K (fun _ _ _ => False)) { tmps := (ps.zip #[.string k]).foldl (fun t (p, u) => t.setIfInBounds p u) a.tmps, defers := [] } W)
    (hbody : ∀ (n l : Nat) (k : ByteArray) (W : World), I k W → k ≠ emp → body.wpIn (Fence.wide.inRound l) n Tryz.prog (RangeKPost w.heap.size nx k I Ix W) (a1 k) W)
    (hdone : ∀ (D : Nat) (W : World), w.heap.size ≤ D → I emp W → W.heap[D]? = some (.deferred (some [])) → Q .normal { a with defers := { target := .collected D, args := #[] } :: a.defers } W)
    (hstop : ∀ (D : Nat) (W : World), w.heap.size ≤ D → Ix W → W.heap[D]? = some (.deferred (some [])) → Q (.exit 0) { a with defers := { target := .collected D, args := #[] } :: a.defers } W) :
    (Code.rangeFunc g ps assign body).wp Tryz.prog Q a w := by
  refine (wpIn_wide (n := 9)).1 (wpIn_rangeFunc ?_)
  intro fn hfn
  obtain ⟨rc, hrc⟩ : ∃ rc : LoopState → Option Code → Loop, rc = fun st pe => { state := st, pending := pe, fn, tmps := a.tmps, params := ps, assign, body, defers := w.heap.size } := ⟨_, rfl⟩
  obtain ⟨L, hL⟩ : ∃ L, L = w.heap.size + 1 := ⟨_, rfl⟩
  obtain ⟨W1, hW1⟩ : ∃ W1, W1 = (w.alloc (.deferred (some []))).alloc (.loop (rc .ready none)) := ⟨_, rfl⟩
  have hsz : W1.heap.size = w.heap.size + 2 := by rw [hW1]; simp
  have hb1 : Below w.heap.size w W1 := by rw [hW1]; exact ((below1 w _)).alloc (by simp) _
  have hD1 : W1.heap[w.heap.size]? = some (.deferred (some [])) := by rw [hW1]; exact hp_alloc (hp_new w _) _
  have hL1 : W1.heap[L]? = some (.loop (rc .ready none)) := by
    rw [hW1, hL]
    have := hp_new (w.alloc (.deferred (some []))) (.loop (rc .ready none))
    rwa [World.size_alloc] at this
  refine ⟨L, [{ target := .collected w.heap.size, args := #[] }], W1, { target := .fn (.func 150) #[.pointer (some ⟨g1, 0, none⟩), .pointer (some ⟨g2, 0, none⟩), .pointer (some ⟨g3, 0, none⟩)], args := #[.func (.yield L) #[] #[]] }, W1, 150,
    #[.func (.yield L) #[] #[], .pointer (some ⟨g1, 0, none⟩), .pointer (some ⟨g2, 0, none⟩), .pointer (some ⟨g3, 0, none⟩)], W1, ?_, ?_, ?_, ?_, ?_, callsIn_wide.2 ?_⟩
  · rw [hW1, hL, hrc]
    exact run_enterLoop_outer _ _ _ _ _
  · simp only [resolve, hg]
    simp [go_sem]
  · intro f' _
    exact trivial
  · simp [invoke, go_sem]
  · intro hd
    cases hd
  · have HB : BodyK L g1 g2 g3 mb frm to sv nx
        (fun k W => I k W ∧ W.heap[L]? = some (.loop (rc .ready none)) ∧ W.heap[w.heap.size]? = some (.deferred (some [])))
        (fun W => Ix W ∧ W.heap[L]? = some (.loop (rc .done (some (.exit 0)))) ∧ W.heap[w.heap.size]? = some (.deferred (some []))) := by
      refine ⟨fun h => H.bx h.1, ?_, fun h => H.ab h.1, fun h => H.se h.1, ?_⟩
      · intro k W W' h hb
        exact ⟨H.keep h.1 (Kept.ofBelow hb) (fun _ e => e.elim), hp_below h.2.1 hb (hp_lt h.2.1), hp_below h.2.2 hb (hp_lt h.2.2)⟩
      · intro k W h hk n'
        obtain ⟨hI, hl, hd⟩ := h
        have hy := run_yield (P := Tryz.prog) (args := #[.string k]) hl (by rw [hrc]; exact hps.symm)
        rw [hrc] at hy
        refine ⟨fn, _, assign, body, hy, ?_⟩
        refine roundIn_of_wpIn trivial (hassign n' L k W _ ?_)
        obtain ⟨W2, hW2⟩ : ∃ W2, W2 = W.putObj L (.loop { rc .ready none with state := .busy }) := ⟨_, rfl⟩
        have hLl : L < W.heap.size := hp_lt hl
        have hl2 : W2.heap[L]? = some (.loop { rc .ready none with state := .busy }) := by rw [hW2]; exact World.putObj_heap_same hLl
        have hd2 : W2.heap[w.heap.size]? = some (.deferred (some [])) := by rw [hW2, put_off _ (by omega)]; exact hd
        have k2 : Kept (fun j => j = L) W W2 := by rw [hW2]; exact kept_put _ _ _
        have hI2 := H.keep hI k2 (fun j e => ⟨by subst e; omega, _, by subst e; exact hl, rfl⟩)
        refine ⟨W2, by rw [hW2]; exact run_beginRound hl (by rw [hrc]), wpIn_mono (hbody n' L k W2 hI2 hk) ?_⟩
        have FIN : ∀ (jump : Option Code) (W3 : World), KeepsFrom w.heap.size W2 W3 → ∃ W4, (Instr.endRound L jump).run Tryz.prog W3 = .ok (.bool jump.isNone) W4 ∧ Kept (fun j => j = L) W3 W4 ∧ W3.heap[L]? = some (.loop { rc .ready none with state := .busy }) ∧
            W4.heap[L]? = some (.loop (rc (if jump.isNone then .ready else .done) jump)) ∧ W4.heap[w.heap.size]? = some (.deferred (some [])) := by
          intro jump W3 hk3
          have hl3 := hk3.same _ _ (by omega) hl2 rfl
          have hd3 := hk3.same _ _ (Nat.le_refl _) hd2 rfl
          have hr := run_endRound (P := Tryz.prog) jump hl3
          refine ⟨_, hr, kept_put _ _ _, hl3, ?_, ?_⟩
          · rw [World.putObj_heap_same (hp_lt hl3), hrc]
          · rw [put_off _ (by omega)]; exact hd3
        intro e a3 W3 hp
        cases e with
        | normal =>
          obtain ⟨hk3, hI3⟩ := hp
          obtain ⟨W4, hr, hk4, hl3, hl4, hd4⟩ := FIN none W3 hk3
          refine ⟨_, W4, hr, true, rfl, fun _ => ⟨H.keep hI3 hk4 (fun j e => ⟨by subst e; omega, _, by subst e; exact hl3, rfl⟩), hl4, hd4⟩, fun e => (by cases e)⟩
        | exit id =>
          obtain ⟨rfl, hk3, hx⟩ := hp
          obtain ⟨W4, hr, hk4, hl3, hl4, hd4⟩ := FIN (some (.exit 0)) W3 hk3
          refine ⟨_, W4, hr, false, rfl, fun e => (by cases e), fun _ => ⟨H.keepx hx hk4 (fun j e => ⟨by subst e; omega, _, by subst e; exact hl3, rfl⟩), hl4, hd4⟩⟩
        | ret => exact hp.elim
        | goto t => exact hp.elim
        | panic ch => exact hp.elim
        | outgrown => exact hp.elim
    refine (iterK_any HB μ hμ hm0 hz hf W1 ⟨h0 W1 hb1, hL1, hD1⟩).mono ?_
    rintro e W2 ⟨rfl, (⟨hI, hl, hd⟩ | ⟨hx, hl, hd⟩)⟩
    · refine ⟨none, _, (run_endLoop (P := Tryz.prog) hl (by rw [hrc]; simp)).trans (by rw [hrc]), ?_⟩
      exact hdone w.heap.size _ (Nat.le_refl _) (H.keep hI (kept_put _ _ _) (fun j e => ⟨by subst e; omega, _, by subst e; exact hl, rfl⟩)) (by rw [put_off _ (by omega)]; exact hd)
    · refine ⟨some (.exit 0), _, (run_endLoop (P := Tryz.prog) hl (by rw [hrc]; simp)).trans (by rw [hrc]), ?_⟩
      refine wpIn_exit ?_
      exact hstop w.heap.size _ (Nat.le_refl _) (H.keepx hx (kept_put _ _ _) (fun j e => ⟨by subst e; omega, _, by subst e; exact hl, rfl⟩)) (by rw [put_off _ (by omega)]; exact hd)
set_option maxHeartbeats 1600000 in
theorem keys_any (mb : Nat) (frm to : ByteArray) (w : World) :
    Calls Tryz.prog 128 #[.pointer (some ⟨mb, 0, none⟩), .string frm, .string to] w fun e w' => e = .returned (keyIt (w.heap.size + 1) w.heap.size (w.heap.size + 1 + 1)) ∧ KB w' (w.heap.size + 1) w.heap.size (w.heap.size + 1 + 1) mb frm to ∧ Below w.heap.size w w' := by
  have hmf : ∀ (fn : Fn) (first cap : Array Value) (w : World), (Instr.makeFunc fn first cap).run Tryz.prog w = .ok (.func fn first cap) w := fun _ _ _ _ => rfl
  obtain ⟨a0, a1, a2, ab⟩ := three w (Obj.cells #[Value.pointer (some ⟨mb, 0, none⟩)] 73) (Obj.cells #[Value.string frm] 9) (Obj.cells #[Value.string to] 9)
  have HA := hid (And.intro a0 (And.intro a1 (And.intro a2 ab)))
  clear a0 a1 a2 ab
  go_enter Tryz.func128, Tryz.ntmps128
  go_wp2
  go_ret
  exact ⟨rfl, ⟨HA.out.2.1, HA.out.1, HA.out.2.2.1⟩, HA.out.2.2.2⟩
end Go.Proofs.YthcoigbkdbkojabGreat
