import Derived.Test.YtljfmbjibjoiiabK11
import Derived.Defers
import Derived.Recover
import Derived.Lib.SmallJoins
namespace Go.Proofs.Ytljfmbjibjoiiab
open Go.RowKit Go.Lib

theorem eqNil (w : World) : (binOp BinOp.eql 20 .nilIface .nilIface).run Try.prog w = .ok (.bool true) w := by kernel_rfl
theorem eqRef (E : Int) (w : World) : (binOp BinOp.eql 20 (.iface 66 (.agg #[.int .i64 E])) .nilIface).run Try.prog w = .ok (.bool false) w := by kernel_rfl
theorem taRef (v : Value) (w : World) : (Instr.typeAssert (.iface 66 v) 20 66 true).run Try.prog w = .ok (.tuple #[v, .bool true]) w := by kernel_rfl

set_option maxRecDepth 100000 in
theorem catch_idle (p q : Addr) (w : World) :
    CallsD Try.prog 21 #[.pointer (some p), .pointer (some q)] .returning w fun e u' w' => e = .returned (.tuple #[]) ∧ u' = .returning ∧ w' = w := by
  have h1 := eqNil
  refine callsD_of_wpS Try.func21 rfl fun c₀ cs hu => ?_
  apply wpS_seq
  apply wpS_region
  simp [wpOpsS, go_sem, recoverD, hu, Try.ntmps21, Exit.thenS]
  refine wpS_of_wp ?_
  go_wp2
  cases c₀
  simp_all [bodyPostS, results, Try.results21]

theorem ref_fin {w : World} {r2 r3 : Nat} {nm : ByteArray} {ar : Int} {S : Value} {x : Int} (h2 : w.heap[r2]? = some (po nm ar S)) (h3 : w.heap[r3]? = some (.cells #[.int .i64 x] 25 (0, 0))) (hne : r2 ≠ r3) (E : Int) :
    ((((((w.setCell ⟨r2, 0, none⟩ (.string emp)).setCell ⟨r2, 1, none⟩ (.int .i64 0)).setCell ⟨r2, 2, none⟩ (.slice none 0 0)).setCell ⟨r3, 0, none⟩ (.int .i64 E)).alloc (.cells #[.int .i64 E] 66)).drew).heap[r2]? = some (po emp 0 (.slice none 0 0)) ∧ ((((((w.setCell ⟨r2, 0, none⟩ (.string emp)).setCell ⟨r2, 1, none⟩ (.int .i64 0)).setCell ⟨r2, 2, none⟩ (.slice none 0 0)).setCell ⟨r3, 0, none⟩ (.int .i64 E)).alloc (.cells #[.int .i64 E] 66)).drew).heap[r3]? = some (.cells #[.int .i64 E] 25 (0, 0)) ∧ Kept (fun k => k = r2 ∨ k = r3) w ((((((w.setCell ⟨r2, 0, none⟩ (.string emp)).setCell ⟨r2, 1, none⟩ (.int .i64 0)).setCell ⟨r2, 2, none⟩ (.slice none 0 0)).setCell ⟨r3, 0, none⟩ (.int .i64 E)).alloc (.cells #[.int .i64 E] 66)).drew) := by
  have k : Kept (fun k => k = r2 ∨ k = r3) w ((((w.setCell ⟨r2, 0, none⟩ (.string emp)).setCell ⟨r2, 1, none⟩ (.int .i64 0)).setCell ⟨r2, 2, none⟩ (.slice none 0 0)).setCell ⟨r3, 0, none⟩ (.int .i64 E)) :=
    ((((Kept.refl (fun k => k = r2 ∨ k = r3) w).setCell (p := ⟨r2, 0, none⟩) (fun _ => .inl rfl) _).setCell (p := ⟨r2, 1, none⟩) (fun _ => .inl rfl) _).setCell (p := ⟨r2, 2, none⟩) (fun _ => .inl rfl) _).setCell (p := ⟨r3, 0, none⟩) (fun _ => .inr rfl) _
  have b2 : ((((w.setCell ⟨r2, 0, none⟩ (.string emp)).setCell ⟨r2, 1, none⟩ (.int .i64 0)).setCell ⟨r2, 2, none⟩ (.slice none 0 0)).setCell ⟨r3, 0, none⟩ (.int .i64 E)).heap[r2]? = some (po emp 0 (.slice none 0 0)) :=
    (Below.heap_setCell _ _ _ _ hne).trans (set3 h2 _ _ _)
  have b3 : ((((w.setCell ⟨r2, 0, none⟩ (.string emp)).setCell ⟨r2, 1, none⟩ (.int .i64 0)).setCell ⟨r2, 2, none⟩ (.slice none 0 0)).setCell ⟨r3, 0, none⟩ (.int .i64 E)).heap[r3]? = some (.cells #[.int .i64 E] 25 (0, 0)) := by
    have e : (((w.setCell ⟨r2, 0, none⟩ (.string emp)).setCell ⟨r2, 1, none⟩ (.int .i64 0)).setCell ⟨r2, 2, none⟩ (.slice none 0 0)).heap[r3]? = some (.cells #[.int .i64 x] 25 (0, 0)) :=
      (Below.heap_setCell _ _ _ _ hne.symm).trans ((Below.heap_setCell _ _ _ _ hne.symm).trans ((Below.heap_setCell _ _ _ _ hne.symm).trans h3))
    generalize (((w.setCell ⟨r2, 0, none⟩ (.string emp)).setCell ⟨r2, 1, none⟩ (.int .i64 0)).setCell ⟨r2, 2, none⟩ (.slice none 0 0)) = W at e
    simp [World.setCell, Array.getElem?_modify, e]
  exact ⟨(Below.heap_alloc _ _ _ (lt_of b2)).trans b2, (Below.heap_alloc _ _ _ (lt_of b3)).trans b3, (k.alloc _).drew⟩

set_option maxRecDepth 100000 in
set_option maxHeartbeats 4000000 in
theorem catch_ref (r3 r2 : Nat) (nm : ByteArray) (ar : Int) (S : Value) (x E : Int) (w : World) (h2 : w.heap[r2]? = some (po nm ar S)) (h3 : w.heap[r3]? = some (.cells #[.int .i64 x] 25 (0, 0))) :
    CallsD Try.prog 21 #[.pointer (some ⟨r2, 0, none⟩), .pointer (some ⟨r3, 0, none⟩)] (.panicking [{ v := .iface 66 (.agg #[.int .i64 E]), recovered := false }]) w fun e u' w' =>
      e = .returned (.tuple #[]) ∧ u' = .panicking [{ v := .iface 66 (.agg #[.int .i64 E]), recovered := true }] ∧ w'.heap[r2]? = some (po emp 0 (.slice none 0 0)) ∧ w'.heap[r3]? = some (.cells #[.int .i64 E] 25 (0, 0)) ∧ Kept (fun k => k = r2 ∨ k = r3) w w' := by
  have h1 := eqRef E
  have h4 := taRef
  obtain ⟨c0, c1, c2, cz⟩ := vfacts h2
  have d0 : w.cell? ⟨r3, 0, none⟩ = some (.int .i64 x) := by rw [cell_of_row w _ _ _ _ _ h3]; rfl
  have dz : ∀ o, w.frozen? ⟨r3, o, none⟩ = false := fun o => by simp [World.frozen?, h3]
  have k2 := lt_of h2
  have k3 := lt_of h3
  have hne : r2 ≠ r3 := by
    intro e
    rw [e, h3] at h2
    simp at h2
  have H2 := hid h2
  have H3 := hid h3
  clear h2 h3
  refine callsD_of_wpS Try.func21 rfl fun c₀ cs hu => ?_
  apply wpS_seq
  apply wpS_region
  simp [wpOpsS, go_sem, recoverD, hu, Try.ntmps21, Exit.thenS]
  refine wpS_of_wp ?_
  have hT : (#[Value.pointer (some ⟨r2, 0, none⟩), Value.pointer (some ⟨r3, 0, none⟩)] ++ (Array.replicate 12 undef).setIfInBounds 3 (Value.iface 66 (.agg #[.int .i64 E]))) =
    #[Value.pointer (some ⟨r2, 0, none⟩), Value.pointer (some ⟨r3, 0, none⟩), undef, undef, undef, Value.iface 66 (.agg #[.int .i64 E]), undef, undef, undef, undef, undef, undef, undef, undef] := rfl
  rw [hT]
  clear hT
  refine Code.wp_mono NoPanic.imp ?_
  go_wp2
  go_region
  have HF := ref_fin H2.out H3.out hne E
  refine NoPanic.normal (NoPanic.normal ?_)
  exact ⟨rfl, _, rfl, .tuple #[], by simp [results, Try.results21], rfl, rfl, HF⟩

/-- What Decode says of bytes. -/
def decP (bs : List Int) : Except Int (List Int × Int × List Ins) :=
  match tkProc bs with
  | .error E => .error E
  | .ok (nm, ar, xs) => if (procChk (mkStr nm) ar xs).2 = 0 then .ok (nm, ar, xs) else .error (procChk (mkStr nm) ar xs).2

/-- What Decode leaves. -/
def DPost (w : World) (r : Except Int (List Int × Int × List Ins)) (e : Ending) (w' : World) : Prop :=
  Below w.heap.size w w' ∧ match r with
  | .ok (nm, ar, xs) => ∃ cb, e = .returned (.tuple #[.agg #[.string (mkStr nm), .int .i64 ar, .slice (some ⟨cb, 0, none⟩) xs.length xs.length], .int .i64 0]) ∧ w.heap.size ≤ cb ∧ (∃ cs, w'.heap[cb]? = some (.cells cs 42 (0, 0))) ∧ ∀ (j : Nat) (x : Ins), xs[j]? = some x → InsAt w' cb (j * 8) x
  | .error E => e = .returned (.tuple #[.agg #[.string emp, .int .i64 0, .slice none 0 0], .int .i64 E])

theorem dec_door {w w1 : World} (hb : Below ((w.alloc (po emp 0 (.slice none 0 0))).alloc (.cells #[.int .i64 0] 25)).heap.size ((w.alloc (po emp 0 (.slice none 0 0))).alloc (.cells #[.int .i64 0] 25)) w1) :
    w1.heap[w.heap.size]? = some (po emp 0 (.slice none 0 0)) ∧ w1.heap[w.heap.size + 1]? = some (.cells #[.int .i64 0] 25 (0, 0)) ∧ Below w.heap.size w w1 :=
  ⟨blk_of hb (two1 w _ _) (by simp; omega), blk_of hb (two2 w _ _) (by simp), below_on (below2 w _ _) hb⟩

set_option maxRecDepth 100000 in
theorem load30 {w : World} {r : Nat} {E : Int} (hb : w.heap[r]? = some (.cells #[.int .i64 E] 25 (0, 0))) : (loadVar 25 ⟨r, 0, none⟩).run Try.prog w = .ok (.int .i64 E) w := by
  have c0 : w.cell? ⟨r, 0, none⟩ = some (.int .i64 E) := by rw [cell_of_row w _ _ _ _ _ hb]; rfl
  simp [go_sem, c0]

set_option maxRecDepth 100000 in
theorem ret17 {tmps : Array Value} {w : World} {r2 r3 : Nat} {a b c : Value} {E : Int} (h2 : w.heap[r2]? = some (.cells #[a, b, c] 24 (0, 0))) (h3 : w.heap[r3]? = some (.cells #[.int .i64 E] 25 (0, 0)))
    (ht2 : tmps.getD 2 undef = .pointer (some ⟨r2, 0, none⟩) := by rfl) (ht3 : tmps.getD 3 undef = .pointer (some ⟨r3, 0, none⟩) := by rfl) :
    (results Try.f8 tmps).run Try.prog w = .ok (.tuple #[.agg #[a, b, c], .int .i64 E]) w := by
  simp only [Array.getD_eq_getD_getElem?] at ht2 ht3
  simp only [results, Try.results8]
  simp [ht2, ht3, load24 h2, load30 h3, asAddr]

set_option maxRecDepth 100000 in
set_option maxHeartbeats 4000000 in
theorem pdecode_take_no (v : Value) (bs : List Int) (w : World) (h : Sl w v bs) (ho : Oct bs) (hl : bs.length ≤ 1000000000) (E : Int) (hE : tkProc bs = .error E) :
    Calls Try.prog 8 #[v] w (DPost w (.error E)) := by
  have HT := hid (fun W (hW : Sl W v bs) => ptake_any v bs W hW ho hl)
  rw [hE] at HT
  unfold TKPost at HT
  dsimp only at HT
  have HH := hid h
  have hmf : ∀ (fn : Fn) (first cap : Array Value) (w : World), (Instr.makeFunc fn first cap).run Try.prog w = .ok (.func fn first cap) w := fun _ _ _ _ => rfl
  unfold DPost
  dsimp only
  clear h hE
  go_enter_defers Try.func8, Try.ntmps8
  go_wp2_with (first
    | (go_at_call 22
       refine (HT.out _ (HH.out.below (below2 w _ _))).mono ?_
       rintro e w1 ⟨hb1, rfl⟩
       have H1 := hid (dec_door hb1)
       clear hb1))
  refine leaves_cons (f := 21) (args := #[.pointer (some ⟨w.heap.size, 0, none⟩), .pointer (some ⟨w.heap.size + 1, 0, none⟩)]) (by simp) (by simp [go_sem]) ?_
  refine (catch_ref (w.heap.size + 1) w.heap.size emp 0 (.slice none 0 0) 0 E w1 H1.out.1 H1.out.2.1).mono ?_
  rintro e u' w2 ⟨rfl, rfl, h2, h3, hk⟩
  exact ⟨_, ret17 h2 h3, H1.out.2.2.trans (hk.below H1.out.2.2.size (fun k h1 h2 => by omega)), rfl⟩

/-- Behind take: the result's block, the list. -/
structure Dst2 (w W : World) (cb : Nat) (nm : ByteArray) (ar : Int) (xs : List Ins) : Prop where
  r2 : W.heap[w.heap.size]? = some (po nm ar (.slice (some ⟨cb, 0, none⟩) xs.length xs.length))
  r3 : W.heap[w.heap.size + 1]? = some (.cells #[.int .i64 0] 25 (0, 0))
  bk : ∃ cs, W.heap[cb]? = some (.cells cs 42 (0, 0))
  co : ∀ (j : Nat) (x : Ins), xs[j]? = some x → InsAt W cb (j * 8) x
  hb : Below w.heap.size w W
  lt : w.heap.size + 1 < cb

theorem Dst2.below {w W W' : World} {cb : Nat} {nm : ByteArray} {ar : Int} {xs : List Ins} (h : Dst2 w W cb nm ar xs) (hb : Below W.heap.size W W') : Dst2 w W' cb nm ar xs := by
  obtain ⟨cs, hc⟩ := h.bk
  have hl := hb.block _ (lt_of hc)
  exact ⟨blk_of hb h.r2 (lt_of h.r2), blk_of hb h.r3 (lt_of h.r3), ⟨cs, hl.trans hc⟩, fun j x hx => (h.co j x hx).same hl, below_on h.hb hb, h.lt⟩

theorem Dst2.code {w W : World} {cb : Nat} {nm : ByteArray} {ar : Int} {xs : List Ins} (h : Dst2 w W cb nm ar xs) : CodeAt W (.slice (some ⟨cb, 0, none⟩) xs.length xs.length) xs :=
  ⟨_, _, rfl, Nat.le_refl _, fun _ => ⟨cb, 0, rfl, fun j x hx => by rw [Nat.zero_add]; exact h.co j x hx⟩⟩

theorem dst2_start {w w1 : World} {cb : Nat} {nm : ByteArray} {ar : Int} {xs : List Ins} (h1 : w1.heap[w.heap.size]? = some (po emp 0 (.slice none 0 0)) ∧ w1.heap[w.heap.size + 1]? = some (.cells #[.int .i64 0] 25 (0, 0)) ∧ Below w.heap.size w w1)
    (hc : w.heap.size + 1 + 1 ≤ cb) (hk : ∃ cs, w1.heap[cb]? = some (.cells cs 42 (0, 0))) (co : ∀ (j : Nat) (x : Ins), xs[j]? = some x → InsAt w1 cb (j * 8) x) :
    Dst2 w (((w1.setCell ⟨w.heap.size, 0, none⟩ (.string nm)).setCell ⟨w.heap.size, 1, none⟩ (.int .i64 ar)).setCell ⟨w.heap.size, 2, none⟩ (.slice (some ⟨cb, 0, none⟩) xs.length xs.length)) cb nm ar xs := by
  have k : Kept (fun k => k = w.heap.size) w1 (((w1.setCell ⟨w.heap.size, 0, none⟩ (.string nm)).setCell ⟨w.heap.size, 1, none⟩ (.int .i64 ar)).setCell ⟨w.heap.size, 2, none⟩ (.slice (some ⟨cb, 0, none⟩) xs.length xs.length)) :=
    (((Kept.refl (fun k => k = w.heap.size) w1).setCell (p := ⟨w.heap.size, 0, none⟩) (fun _ => rfl) _).setCell (p := ⟨w.heap.size, 1, none⟩) (fun _ => rfl) _).setCell (p := ⟨w.heap.size, 2, none⟩) (fun _ => rfl) _
  obtain ⟨cs, hcs⟩ := hk
  have hl := k.block cb (lt_of hcs) (by omega)
  exact ⟨set3 h1.1 _ _ _, (k.block _ (lt_of h1.2.1) (by omega)).trans h1.2.1, ⟨cs, hl.trans hcs⟩, fun j x hx => (co j x hx).same hl, Below.set3 h1.2.2 (Nat.le_refl _) _ _ _, by omega⟩

theorem Dst2.fin {w W : World} {cb : Nat} {nm : ByteArray} {ar : Int} {xs : List Ins} (h : Dst2 w W cb nm ar xs) :
    ((((W.setCell ⟨w.heap.size, 0, none⟩ (.string nm)).setCell ⟨w.heap.size, 1, none⟩ (.int .i64 ar)).setCell ⟨w.heap.size, 2, none⟩ (.slice (some ⟨cb, 0, none⟩) xs.length xs.length)).setCell ⟨w.heap.size + 1, 0, none⟩ (.int .i64 0)).heap[w.heap.size]? = some (po nm ar (.slice (some ⟨cb, 0, none⟩) xs.length xs.length)) ∧
    ((((W.setCell ⟨w.heap.size, 0, none⟩ (.string nm)).setCell ⟨w.heap.size, 1, none⟩ (.int .i64 ar)).setCell ⟨w.heap.size, 2, none⟩ (.slice (some ⟨cb, 0, none⟩) xs.length xs.length)).setCell ⟨w.heap.size + 1, 0, none⟩ (.int .i64 0)).heap[w.heap.size + 1]? = some (.cells #[.int .i64 0] 25 (0, 0)) ∧
    Below w.heap.size w ((((W.setCell ⟨w.heap.size, 0, none⟩ (.string nm)).setCell ⟨w.heap.size, 1, none⟩ (.int .i64 ar)).setCell ⟨w.heap.size, 2, none⟩ (.slice (some ⟨cb, 0, none⟩) xs.length xs.length)).setCell ⟨w.heap.size + 1, 0, none⟩ (.int .i64 0)) ∧
    (∃ cs, ((((W.setCell ⟨w.heap.size, 0, none⟩ (.string nm)).setCell ⟨w.heap.size, 1, none⟩ (.int .i64 ar)).setCell ⟨w.heap.size, 2, none⟩ (.slice (some ⟨cb, 0, none⟩) xs.length xs.length)).setCell ⟨w.heap.size + 1, 0, none⟩ (.int .i64 0)).heap[cb]? = some (.cells cs 42 (0, 0))) ∧
    ∀ (j : Nat) (x : Ins), xs[j]? = some x → InsAt ((((W.setCell ⟨w.heap.size, 0, none⟩ (.string nm)).setCell ⟨w.heap.size, 1, none⟩ (.int .i64 ar)).setCell ⟨w.heap.size, 2, none⟩ (.slice (some ⟨cb, 0, none⟩) xs.length xs.length)).setCell ⟨w.heap.size + 1, 0, none⟩ (.int .i64 0)) cb (j * 8) x := by
  have k1 : Kept (fun k => k = w.heap.size) W (((W.setCell ⟨w.heap.size, 0, none⟩ (.string nm)).setCell ⟨w.heap.size, 1, none⟩ (.int .i64 ar)).setCell ⟨w.heap.size, 2, none⟩ (.slice (some ⟨cb, 0, none⟩) xs.length xs.length)) :=
    (((Kept.refl (fun k => k = w.heap.size) W).setCell (p := ⟨w.heap.size, 0, none⟩) (fun _ => rfl) _).setCell (p := ⟨w.heap.size, 1, none⟩) (fun _ => rfl) _).setCell (p := ⟨w.heap.size, 2, none⟩) (fun _ => rfl) _
  have b2 := set3 h.r2 (.string nm) (.int .i64 ar) (.slice (some ⟨cb, 0, none⟩) xs.length xs.length)
  have b3 := (k1.block _ (lt_of h.r3) (by omega)).trans h.r3
  have hB := Below.set3 h.hb (Nat.le_refl w.heap.size) (.string nm) (.int .i64 ar) (.slice (some ⟨cb, 0, none⟩) xs.length xs.length)
  obtain ⟨cs, hc⟩ := h.bk
  have hl := h.lt
  have b4 := (k1.block _ (lt_of hc) (by omega)).trans hc
  have hco := fun j x hx => (h.co j x hx).same (k1.block cb (lt_of hc) (by omega))
  generalize (((W.setCell ⟨w.heap.size, 0, none⟩ (.string nm)).setCell ⟨w.heap.size, 1, none⟩ (.int .i64 ar)).setCell ⟨w.heap.size, 2, none⟩ (.slice (some ⟨cb, 0, none⟩) xs.length xs.length)) = V at b2 b3 hB b4 hco
  have e : ∀ k, k ≠ w.heap.size + 1 → (V.setCell ⟨w.heap.size + 1, 0, none⟩ (.int .i64 0)).heap[k]? = V.heap[k]? := fun k hk => Below.heap_setCell _ _ _ _ hk
  refine ⟨(e _ (by omega)).trans b2, ?_, hB.setCell (p := ⟨w.heap.size + 1, 0, none⟩) (by show w.heap.size ≤ w.heap.size + 1; omega) _, ⟨cs, (e _ (by omega)).trans b4⟩, fun j x hx => (hco j x hx).same (e _ (by omega))⟩
  simp [World.setCell, Array.getElem?_modify, b3]

theorem tkCode_len (bs : List Int) (most : Int) : ∀ (n a : Nat) (xs : List Ins) (a2 : Nat), tkCode bs most n a = .ok (xs, a2) → xs.length = n := by
  intro n
  induction n with
  | zero => intro a xs a2 h; simp [tkCode] at h; rw [h.1]; rfl
  | succ n ih =>
    intro a xs a2 h
    rw [tkCode] at h
    split at h
    · cases h
    · split at h
      · cases h
      · rename_i h2
        injection h with h
        injection h with h3 h4
        rw [← h3, List.length_cons, ih _ _ _ h2]

theorem tkProc_len (bs : List Int) (nm : List Int) (ar : Int) (xs : List Ins) (h : tkProc bs = .ok (nm, ar, xs)) : xs.length ≤ 64 := by
  unfold tkProc at h
  split at h
  · split at h
    · rename_i h64
      unfold tkEnd at h
      split at h
      · cases h
      · rename_i ys a hc
        split at h
        · injection h with h
          injection h with h1 h2
          injection h2 with h2 h3
          have := tkCode_len _ _ _ _ _ _ hc
          rw [← h3]
          omega
        · cases h
    · cases h
  · cases h

set_option maxRecDepth 100000 in
set_option maxHeartbeats 4000000 in
theorem pdecode_no (v : Value) (bs : List Int) (w : World) (h : Sl w v bs) (ho : Oct bs) (hl : bs.length ≤ 1000000000) (nm : List Int) (ar : Int) (xs : List Ins) (hT : tkProc bs = .ok (nm, ar, xs)) (E1 E : Int) (hE : procChk (mkStr nm) ar xs = (E1, E)) (hE0 : E ≠ 0) :
    Calls Try.prog 8 #[v] w (DPost w (.error E)) := by
  have HT := hid (fun W (hW : Sl W v bs) => ptake_any v bs W hW ho hl)
  have hlen := tkProc_len bs nm ar xs hT
  rw [hT] at HT
  unfold TKPost at HT
  dsimp only at HT
  have HC := hid (fun S W hW => pcheck_any (mkStr nm) ar S xs W hW (by omega))
  rw [hE] at HC
  dsimp only at HC
  have HH := hid h
  have hmf : ∀ (fn : Fn) (first cap : Array Value) (w : World), (Instr.makeFunc fn first cap).run Try.prog w = .ok (.func fn first cap) w := fun _ _ _ _ => rfl
  unfold DPost
  dsimp only
  clear h hE hT
  go_enter_defers Try.func8, Try.ntmps8
  go_wp2_with (first
    | (go_at_call 22
       refine (HT.out _ (HH.out.below (below2 w _ _))).mono ?_
       rintro e w1 ⟨hb1, cb, rfl, hcb, hk1, hco⟩
       have H1 := hid (dst2_start (nm := mkStr nm) (ar := ar) (dec_door hb1) (by simpa using hcb) hk1 hco)
       obtain ⟨c0, c1, c2, cz⟩ := vfacts (dec_door hb1).1
       clear hb1 hcb hk1 hco)
    | (go_at_call 4
       refine (HC.out _ _ H1.out.code).mono ?_
       rintro e w2 ⟨rfl, hb2⟩
       have H2 := hid (H1.out.below hb2)
       clear hb2)
    | (go_at_call 23; refine (insist_no E hE0 _).mono ?_; rintro e w3 ⟨rfl, e3⟩; rw [e3]; clear e3 w3))
  refine leaves_cons (f := 21) (args := #[.pointer (some ⟨w.heap.size, 0, none⟩), .pointer (some ⟨w.heap.size + 1, 0, none⟩)]) (by simp) (by simp [go_sem]) ?_
  refine (catch_ref (w.heap.size + 1) w.heap.size _ _ _ 0 E w2 H2.out.r2 H2.out.r3).mono ?_
  rintro e u' w4 ⟨rfl, rfl, h2, h3, hk⟩
  exact ⟨_, ret17 h2 h3, H2.out.hb.trans (hk.below H2.out.hb.size (fun k h1 h2 => by omega)), rfl⟩

set_option maxRecDepth 100000 in
set_option maxHeartbeats 4000000 in
theorem pdecode_ok (v : Value) (bs : List Int) (w : World) (h : Sl w v bs) (ho : Oct bs) (hl : bs.length ≤ 1000000000) (nm : List Int) (ar : Int) (xs : List Ins) (hT : tkProc bs = .ok (nm, ar, xs)) (E1 : Int) (hE : procChk (mkStr nm) ar xs = (E1, 0)) :
    Calls Try.prog 8 #[v] w (DPost w (.ok (nm, ar, xs))) := by
  have HT := hid (fun W (hW : Sl W v bs) => ptake_any v bs W hW ho hl)
  have hlen := tkProc_len bs nm ar xs hT
  rw [hT] at HT
  unfold TKPost at HT
  dsimp only at HT
  have HC := hid (fun S W hW => pcheck_any (mkStr nm) ar S xs W hW (by omega))
  rw [hE] at HC
  dsimp only at HC
  have HH := hid h
  have hmf : ∀ (fn : Fn) (first cap : Array Value) (w : World), (Instr.makeFunc fn first cap).run Try.prog w = .ok (.func fn first cap) w := fun _ _ _ _ => rfl
  unfold DPost
  dsimp only
  clear h hE hT
  go_enter_defers Try.func8, Try.ntmps8
  go_wp2_with (first
    | (go_at_call 22
       refine (HT.out _ (HH.out.below (below2 w _ _))).mono ?_
       rintro e w1 ⟨hb1, cb, rfl, hcb, hk1, hco⟩
       have H1 := hid (dst2_start (nm := mkStr nm) (ar := ar) (dec_door hb1) (by simpa using hcb) hk1 hco)
       obtain ⟨c0, c1, c2, cz⟩ := vfacts (dec_door hb1).1
       clear hb1 hcb hk1 hco)
    | (go_at_call 4
       refine (HC.out _ _ H1.out.code).mono ?_
       rintro e w2 ⟨rfl, hb2⟩
       have H2 := hid (H1.out.below hb2)
       obtain ⟨c0, c1, c2, cz⟩ := vfacts H2.out.r2
       have d0 : w2.cell? ⟨w.heap.size + 1, 0, none⟩ = some (.int .i64 0) := by rw [cell_of_row w2 _ _ _ _ _ H2.out.r3]; rfl
       have dz : ∀ o, w2.frozen? ⟨w.heap.size + 1, o, none⟩ = false := fun o => by simp [World.frozen?, H2.out.r3]
       clear hb2)
    | (go_at_call 23; refine (insist_ok _).mono ?_; rintro e w3 ⟨rfl, e3⟩; rw [e3]; clear e3 w3))
  refine leaves_cons (f := 21) (args := #[.pointer (some ⟨w.heap.size, 0, none⟩), .pointer (some ⟨w.heap.size + 1, 0, none⟩)]) (by simp) (by simp [go_sem]) ?_
  refine (catch_idle _ _ _).mono ?_
  rintro e u' w4 ⟨rfl, rfl, rfl⟩
  obtain ⟨f1, f2, f3, f4, f5⟩ := H2.out.fin
  exact ⟨_, ret17 f1 f2, f3, cb, rfl, by have := H2.out.lt; omega, f4, f5⟩

theorem pdecode_any (v : Value) (bs : List Int) (w : World) (h : Sl w v bs) (ho : Oct bs) (hl : bs.length ≤ 1000000000) : Calls Try.prog 8 #[v] w (DPost w (decP bs)) := by
  unfold decP
  cases hT : tkProc bs with
  | error E => exact pdecode_take_no v bs w h ho hl E hT
  | ok r =>
    obtain ⟨nm, ar, xs⟩ := r
    obtain ⟨E1, E, hE⟩ : ∃ R1 R2, procChk (mkStr nm) ar xs = (R1, R2) := ⟨_, _, rfl⟩
    dsimp only
    rw [hE]
    dsimp only
    by_cases h0 : E = 0
    · subst h0
      rw [if_pos rfl]
      exact pdecode_ok v bs w h ho hl nm ar xs hT E1 hE
    · rw [if_neg h0]
      exact pdecode_no v bs w h ho hl nm ar xs hT E1 E hE h0

end Go.Proofs.Ytljfmbjibjoiiab

namespace Go.Proofs.Ytljfmbjibjoiiab
open Go.RowKit Go.Lib

instance : DecidableEq Ins := fun x y =>
  decidable_of_iff (x.op = y.op ∧ x.a = y.a ∧ x.b = y.b ∧ x.c = y.c ∧ x.n = y.n ∧ x.k = y.k ∧ x.i = y.i ∧ x.t = y.t) (by
    obtain ⟨o, a, b, c, n, k, i, t⟩ := x
    obtain ⟨o', a', b', c', n', k', i', t'⟩ := y
    simp)

set_option maxRecDepth 100000 in
theorem ins_neq (x y : Ins) (w : World) : (binOp BinOp.neq 42 x.val y.val).run Try.prog w = .ok (.bool (!decide (x = y))) w := by
  obtain ⟨o, a, b, c, n, k, i, t⟩ := x
  obtain ⟨o', a', b', c', n', k', i', t'⟩ := y
  by_cases h0 : o = o'
  · subst h0
    by_cases h1 : a = a'
    · subst h1
      by_cases h2 : b = b'
      · subst h2
        by_cases h3 : c = c'
        · subst h3
          by_cases h4 : n = n'
          · subst h4
            by_cases h5 : k = k'
            · subst h5
              by_cases h6 : i = i'
              · subst h6
                by_cases h7 : t = t'
                · subst h7; simp [Ins.val, go_sem]
                · have h8 : (t.toList == t'.toList) = false := by
                    simp only [beq_eq_false_iff_ne, ne_eq]
                    exact fun e => h7 (toList_inj e)
                  simp [Ins.val, go_sem, h7, h8]
              · have h8 : (i == i') = false := by simpa using h6
                simp [Ins.val, go_sem, h6, h8]
            · have h8 : (k == k') = false := by simpa using h5
              simp [Ins.val, go_sem, h5, h8]
          · have h8 : (n == n') = false := by simpa using h4
            simp [Ins.val, go_sem, h4, h8]
        · have h8 : (c == c') = false := by simpa using h3
          simp [Ins.val, go_sem, h3, h8]
      · have h8 : (b == b') = false := by simpa using h2
        simp [Ins.val, go_sem, h2, h8]
    · have h8 : (a == a') = false := by simpa using h1
      simp [Ins.val, go_sem, h1, h8]
  · have h8 : (o == o') = false := by simpa using h0
    simp [Ins.val, go_sem, h0, h8]

/-- Two procedures. -/
def sameB (n1 : ByteArray) (a1 : Int) (xs : List Ins) (n2 : ByteArray) (a2 : Int) (ys : List Ins) : Bool := decide (n1 = n2 ∧ a1 = a2 ∧ xs = ys)

/-- While two are held against one another. -/
structure Sms (w W : World) (n1 : ByteArray) (a1 : Int) (S1 : Value) (n2 : ByteArray) (a2 : Int) (S2 : Value) : Prop where
  r0 : W.heap[w.heap.size]? = some (po n1 a1 S1)
  r1 : W.heap[w.heap.size + 1]? = some (po n2 a2 S2)
  hb : Below w.heap.size w W

theorem sms_start (w : World) (n1 : ByteArray) (a1 : Int) (S1 : Value) (n2 : ByteArray) (a2 : Int) (S2 : Value) : Sms w ((w.alloc (po n1 a1 S1)).alloc (po n2 a2 S2)) n1 a1 S1 n2 a2 S2 := ⟨two1 w _ _, two2 w _ _, below2 w _ _⟩

theorem Sms.drewN {w W : World} {n1 : ByteArray} {a1 : Int} {S1 : Value} {n2 : ByteArray} {a2 : Int} {S2 : Value} (h : Sms w W n1 a1 S1 n2 a2 S2) (m : Nat) : Sms w (W.drewN m) n1 a1 S1 n2 a2 S2 :=
  ⟨h.r0, h.r1, ⟨h.hb.os, h.hb.tape, h.hb.output, h.hb.size, h.hb.block⟩⟩

theorem takes_step {α : Type} (xs ys : List α) (k : Nat) (x y : α) (hx : xs[k]? = some x) (hy : ys[k]? = some y) (h : xs.take k = ys.take k) : x = y → xs.take (k + 1) = ys.take (k + 1) := by
  intro e
  rw [List.take_add_one, List.take_add_one, hx, hy, h, e]

set_option maxRecDepth 100000 in
set_option maxHeartbeats 4000000 in
theorem same_any (n1 : ByteArray) (a1 : Int) (S1 : Value) (xs : List Ins) (n2 : ByteArray) (a2 : Int) (S2 : Value) (ys : List Ins) (w : World) (h1 : CodeAt w S1 xs) (h2 : CodeAt w S2 ys) (hl : xs.length ≤ 1000000000) :
    Calls Try.prog 10 #[.agg #[.string n1, .int .i64 a1, S1], .agg #[.string n2, .int .i64 a2, S2]] w fun e w' => e = .returned (.bool (sameB n1 a1 xs n2 a2 ys)) ∧ Below w.heap.size w w' := by
  obtain ⟨ao, c1, rfl, hc1, hx1⟩ := h1
  obtain ⟨bo, c2, rfl, hc2, hx2⟩ := h2
  obtain ⟨R, hR⟩ : ∃ R, R = sameB n1 a1 xs n2 a2 ys := ⟨_, rfl⟩
  rw [← hR]
  have HR := hid hR
  have HX1 := hid hx1
  have HX2 := hid hx2
  have H0 := hid (sms_start w n1 a1 (.slice ao xs.length c1) n2 a2 (.slice bo ys.length c2))
  clear hR hx1 hx2
  by_cases e1 : n1 = n2
  · subst e1
    by_cases e2 : a1 = a2
    · subst e2
      by_cases e3 : xs.length = ys.length
      · have HL := hid e3
        have e3' : ((xs.length : Int) == (ys.length : Int)) = true := by simp [e3]
        have e4 : (ys.length : Int) ≤ (xs.length : Int) := by omega
        have e5 : (xs.length : Int) ≤ (ys.length : Int) := by omega
        clear e3
        go_enter Try.func10, Try.ntmps10
        go_wp2
        go_loopw [5] (fun ix wr => ∃ (k : Nat), k ≤ xs.length ∧ ix = .int .i64 k ∧ Hid (Sms w wr n1 a1 (.slice ao xs.length c1) n1 a1 (.slice bo ys.length c2)) ∧ Hid (xs.take k = ys.take k)) (fun ix _ => xs.length - (intOf ix).toNat)
        case atStart => exact ⟨0, Nat.zero_le _, rfl, H0, hid (by simp)⟩
        case round =>
          clear H0
          obtain ⟨k, hk, rfl, hS, hpre⟩ := hrel
          obtain ⟨p0, p1, p2, -⟩ := vfacts hS.out.r0
          obtain ⟨q0, q1, q2, -⟩ := vfacts hS.out.r1
          by_cases hlt : k < xs.length
          · have hlt2 : k < ys.length := by have := HL.out; omega
            obtain ⟨x, hx⟩ : ∃ x, xs[k]? = some x := ⟨_, List.getElem?_eq_getElem hlt⟩
            obtain ⟨y, hy⟩ : ∃ y, ys[k]? = some y := ⟨_, List.getElem?_eq_getElem hlt2⟩
            obtain ⟨b, off, rfl, hat⟩ := HX1.out (by intro e; rw [e] at hlt; simp at hlt)
            obtain ⟨b', off', rfl, hat'⟩ := HX2.out (by intro e; rw [e] at hlt2; simp at hlt2)
            have hat := hat k x hx
            have hat' := hat' k y hy
            obtain ⟨c0, c1', c2', c3, c4, c5, c6, c7⟩ := hat.same (hS.out.hb.block b hat.lt)
            obtain ⟨d0, d1, d2, d3, d4, d5, d6, d7⟩ := hat'.same (hS.out.hb.block b' hat'.lt)
            have hst := takes_step xs ys k x y hx hy hpre.out
            have hlt' : (k : Int) < (xs.length : Int) := by omega
            have hlt2' : (k : Int) < (ys.length : Int) := by omega
            have hne := ins_neq x y
            unfold Ins.val at hne
            have HXY := hid (And.intro hx hy)
            have HST := hid hst
            clear hat hat' hx hy hst
            by_cases hxy : x = y
            · have HT := hid (HST.out hxy)
              have hxy' : decide (x = y) = true := by simpa using hxy
              rw [hxy', Bool.not_true] at hne
              clear hxy hxy'
              go_wp2
              go_quiet (fail)
              go_wp2
              go_roundw
              case rel => first | exact ⟨k + 1, by omega, by go_num, hid (hS.out.drewN _), HT⟩ | ((repeat apply Exists.intro); exact ⟨⟨k + 1, by omega, by go_num, hid (hS.out.drewN _), HT⟩, rfl⟩)
              case measure => simp [intOf]; omega
            · have hxy' : decide (x = y) = false := by simpa using hxy
              rw [hxy', Bool.not_false] at hne
              have Hr : Hid (R = false) := hid (by
                rw [HR.out]
                simp only [sameB, decide_eq_false_iff_not]
                rintro ⟨_, _, e⟩
                have := HXY.out
                rw [e] at this
                rw [this.1] at this
                exact hxy (Option.some.inj this.2))
              clear hxy hxy'
              go_wp2
              go_quiet (fail)
              go_wp2
              go_ret
              exact ⟨by rw [Hr.out]; rfl, (hS.out.drewN _).hb⟩
          · have Hr : Hid (R = true) := hid (by
              rw [HR.out]
              simp only [sameB, decide_eq_true_eq]
              refine ⟨trivial, trivial, ?_⟩
              have := hpre.out
              rwa [List.take_of_length_le (by omega), List.take_of_length_le (by have := HL.out; omega)] at this)
            go_wp2
            go_ret
            exact ⟨by rw [Hr.out]; rfl, hS.out.hb⟩
      · have Hr : Hid (R = false) := hid (by
          rw [HR.out]
          simp only [sameB, decide_eq_false_iff_not]
          rintro ⟨_, _, e⟩
          exact e3 (by rw [e]))
        have e3' : ((xs.length : Int) == (ys.length : Int)) = false := by simp; omega
        clear e3
        go_enter Try.func10, Try.ntmps10
        go_wp2
        go_ret
        exact ⟨by rw [Hr.out]; rfl, H0.out.hb⟩
    · have Hr : Hid (R = false) := hid (by
        rw [HR.out]
        simp only [sameB, decide_eq_false_iff_not]
        rintro ⟨_, e, _⟩
        exact e2 e)
      have e2' : (a1 == a2) = false := by simpa using e2
      clear e2
      go_enter Try.func10, Try.ntmps10
      go_wp2
      go_ret
      exact ⟨by rw [Hr.out]; rfl, H0.out.hb⟩
  · have Hr : Hid (R = false) := hid (by
      rw [HR.out]
      simp only [sameB, decide_eq_false_iff_not]
      rintro ⟨e, _, _⟩
      exact e1 e)
    have e1' : (n1.toList == n2.toList) = false := by
      simp only [beq_eq_false_iff_ne, ne_eq]
      exact fun e => e1 (toList_inj e)
    have e1'' : (n1 == n2) = false := by rw [beq_toListBytes]; exact e1'
    clear e1
    go_enter Try.func10, Try.ntmps10
    go_wp2
    go_ret
    exact ⟨by rw [Hr.out]; rfl, H0.out.hb⟩

end Go.Proofs.Ytljfmbjibjoiiab

namespace Go.Proofs.Ytljfmbjibjoiiab
open Go.RowKit Go.Lib

/-- The chapter's procedure. -/
def put2 : ByteArray := ⟨#[112, 117, 116, 50]⟩
def kCode : List Ins := [⟨2, 0, 0, 0, 0, 0, 0, emp⟩, ⟨2, 1, 0, 0, 1, 0, 0, emp⟩, ⟨4, 0, 1, 0, 0, 0, 0, emp⟩, ⟨16, 0, 0, 0, 0, 0, 0, emp⟩]
def kBytes : List Int := [4, 112, 117, 116, 50, 2, 4, 2, 0, 0, 2, 1, 1, 4, 0, 1, 16]

theorem k_chk : procChk put2 2 kCode = (0, 0) := by
  have e : nameB put2 = true := by decide
  simp [procChk, e, withinB, kCode, codeChk, insErr, opErr, opF, opN, chkF, Fk.fits, Fk.get, Fk.set, wrap64, chk]
theorem k_none : procChk emp 0 [] = (-1, 5) := by decide
theorem k_bytes : procB put2 2 kCode = kBytes := by decide
theorem k_tk : tkProc kBytes = .ok ([112, 117, 116, 50], 2, kCode) := by kernel_rfl

theorem k_dec : decP kBytes = .ok ([112, 117, 116, 50], 2, kCode) := by
  rw [decP, k_tk]
  have e : mkStr [112, 117, 116, 50] = put2 := rfl
  simp [e, k_chk]

theorem k_oct : Oct kBytes := by
  intro x hx
  simp only [kBytes, List.mem_cons, List.mem_nil_iff, or_false] at hx
  omega

abbrev kCells : Array Value := (kCode.flatMap Ins.cells).toArray

theorem code_of_block {w : World} {b : Nat} {xs : List Ins} (h : w.heap[b]? = some (.cells (xs.flatMap Ins.cells).toArray 42 (0, 0))) : CodeAt w (.slice (some ⟨b, 0, none⟩) xs.length xs.length) xs := by
  refine ⟨_, _, rfl, Nat.le_refl _, fun _ => ⟨b, 0, rfl, fun j x hx => ?_⟩⟩
  have key : ∀ (xs : List Ins) (j : Nat) (x : Ins), xs[j]? = some x → ∀ m, m < 8 → (xs.flatMap Ins.cells)[j * 8 + m]? = x.cells[m]? := by
    intro xs
    induction xs with
    | nil => intro j x hx; simp at hx
    | cons y xs ih =>
      intro j x hx m hm
      rw [List.flatMap_cons]
      cases j with
      | zero =>
        simp at hx
        subst hx
        rw [List.getElem?_append_left (by simp [Ins.cells]; omega)]
        simp
      | succ j =>
        rw [List.getElem?_append_right (by simp [Ins.cells]; omega)]
        have := ih j x (by simpa using hx) m hm
        rw [← this]
        congr 1
        simp [Ins.cells]
        omega
  have hc : ∀ m, m < 8 → w.cell? ⟨b, 0 + j * 8 + m, none⟩ = x.cells[m]? := by
    intro m hm
    rw [cell_of_row w _ _ _ _ _ h, Nat.zero_add]
    simpa using key xs j x hx m hm
  exact ⟨hc 0 (by decide), hc 1 (by decide), hc 2 (by decide), hc 3 (by decide), hc 4 (by decide), hc 5 (by decide), hc 6 (by decide), hc 7 (by decide)⟩

theorem k_ok : ∀ x ∈ kCode, InsOk x := by
  intro x hx
  simp only [kCode, List.mem_cons, List.mem_nil_iff, or_false] at hx
  rcases hx with rfl | rfl | rfl | rfl <;> exact ⟨by decide, by decide⟩

/-- While the known answers are asked. -/
structure Kst (w W : World) : Prop where
  b0 : W.heap[w.heap.size]? = some (.cells kCells 42 (0, 0))
  b1 : W.heap[w.heap.size + 1]? = some (po put2 2 (.slice (some ⟨w.heap.size, 0, none⟩) 4 4))
  hb : Below w.heap.size w W

theorem Kst.below {w W W' : World} (h : Kst w W) (hb : Below W.heap.size W W') : Kst w W' := ⟨blk_of hb h.b0 (lt_of h.b0), blk_of hb h.b1 (lt_of h.b1), below_on h.hb hb⟩

theorem kst_start (w : World) : Kst w ((w.alloc (.cells kCells 42)).alloc (po put2 2 (.slice (some ⟨w.heap.size, 0, none⟩) 4 4))) := ⟨two1 w _ _, two2 w _ _, below2 w _ _⟩

theorem Kst.code {w W : World} (h : Kst w W) : CodeAt W (.slice (some ⟨w.heap.size, 0, none⟩) 4 4) kCode := code_of_block h.b0

abbrev kArr : Array Value := #[.int .u8 4, .int .u8 112, .int .u8 117, .int .u8 116, .int .u8 50, .int .u8 2, .int .u8 4, .int .u8 2, .int .u8 0, .int .u8 0, .int .u8 2, .int .u8 1, .int .u8 1, .int .u8 4, .int .u8 0, .int .u8 1, .int .u8 16]

theorem conv38 (w : World) : (convert 30 30 (.slice (some ⟨w.heap.size, 0, none⟩) 17 17)).run Try.prog (w.alloc (.cells kArr 5)) = .ok (.slice (some ⟨w.heap.size, 0, none⟩) 17 17) (w.alloc (.cells kArr 5 (17, 18))) :=
  Go.Joins.run_convert_bytes_const_at w 30 5 kArr 17 17 w.heap.size rfl Try.underlying30 Try.underlying5

theorem sl_kArr (w : World) : Sl (w.alloc (.cells kArr 5 (17, 18))) (.slice (some ⟨w.heap.size, 0, none⟩) 17 17) kBytes := by
  refine ⟨_, _, rfl, Nat.le_refl _, fun _ => ⟨_, _, rfl, fun j x hx => ?_⟩⟩
  rw [Nat.zero_add, World.cell?_alloc_mark]
  have hj : j < 17 := (List.getElem?_eq_some_iff.1 hx).1
  have : (kArr : Array Value)[j]? = (kBytes.map (Value.int .u8))[j]? := by
    rcases (show j = 0 ∨ j = 1 ∨ j = 2 ∨ j = 3 ∨ j = 4 ∨ j = 5 ∨ j = 6 ∨ j = 7 ∨ j = 8 ∨ j = 9 ∨ j = 10 ∨ j = 11 ∨ j = 12 ∨ j = 13 ∨ j = 14 ∨ j = 15 ∨ j = 16 by omega) with
      rfl | rfl | rfl | rfl | rfl | rfl | rfl | rfl | rfl | rfl | rfl | rfl | rfl | rfl | rfl | rfl | rfl <;> rfl
  rw [this, List.getElem?_map, hx]
  rfl

theorem kfin {w w3 w4 : World} {g2 cb : Nat} {o : Obj} (h : Kst w w3 ∧ Own w3 g2 kBytes ∧ (∃ cs, w3.heap[cb]? = some (.cells cs 42 (0, 0))) ∧ ∀ (j : Nat) (x : Ins), kCode[j]? = some x → InsAt w3 cb (j * 8) x)
    (hb : Below (w3.alloc o).heap.size (w3.alloc o) w4) : Kst w w4 ∧ w4.heap[w3.heap.size]? = some o ∧ Own w4 g2 kBytes ∧ CodeAt w4 (.slice (some ⟨cb, 0, none⟩) 4 4) kCode := by
  have hb' := below_on (below1 w3 o) hb
  obtain ⟨h1, h2, ⟨cs, h3⟩, h4⟩ := h
  exact ⟨h1.below hb', blk_of hb (heap_alloc_new w3 o) (by simp), blk_of hb' h2 (lt_of h2), _, _, rfl, Nat.le_refl _, fun _ => ⟨cb, 0, rfl, fun j x hx => by rw [Nat.zero_add]; exact (h4 j x hx).same (hb'.block cb (lt_of h3))⟩⟩

set_option maxRecDepth 100000 in
set_option maxHeartbeats 4000000 in
theorem known_any (w : World) : Calls Try.prog 5 #[] w fun e w' => e = .returned (.bool true) ∧ Below w.heap.size w w' := by
  have H0 := hid (kst_start w)
  have HC := hid (fun S W hW => pcheck_any put2 2 S kCode W hW (by decide))
  rw [k_chk] at HC
  have HN := hid (fun W => pcheck_any emp 0 (.slice none 0 0) [] W ⟨none, 0, rfl, Nat.le_refl _, fun h => absurd rfl h⟩ (by decide))
  rw [k_none] at HN
  have HE := hid (fun S W hW => pencode_any put2 2 S kCode W hW (by decide) k_ok)
  have HD := hid (fun v W hW => pdecode_any v kBytes W hW k_oct (by decide))
  rw [k_dec] at HD
  unfold PEnc at HE
  rw [k_chk, k_bytes] at HE
  unfold DPost at HD
  dsimp only at HC HN HE HD
  go_enter Try.func5, Try.ntmps5
  go_upto_region 6 with (first
    | (go_at_call 4
       first
       | ((with_reducible show Calls _ _ _ (World.alloc (World.alloc _ _) _) _)
          refine (HC.out _ _ H0.out.code).mono ?_
          rintro e w1 ⟨rfl, hb1⟩
          have H1 := hid (H0.out.below hb1)
          obtain ⟨p0, p1, p2, -⟩ := vfacts H1.out.b1
          clear hb1)
       | (refine (HN.out _).mono ?_
          rintro e w4 ⟨rfl, hb4⟩
          have H4 := hid hb4
          clear hb4))
    | (go_at_call 7
       refine (HE.out _ _ H1.out.code).mono ?_
       rintro e w2 (⟨h2, -⟩ | ⟨-, g2, rfl, ho2, hg2, hb2⟩)
       · exact absurd rfl h2
       rw [show kBytes.length = 17 from rfl]
       have H2 := hid (And.intro (H1.out.below hb2) ho2)
       have hcv := conv38 w2
       clear hb2 hg2 ho2)
    | (go_at_call 8
       refine (HD.out _ _ (sl_kArr w2)).mono ?_
       rintro e w3 ⟨hb3, cb, rfl, hcb, hck, hco⟩
       rw [show kCode.length = 4 from rfl]
       have H3 := hid (And.intro (H2.out.1.below (below_on (below1 w2 _) hb3)) (And.intro (blk_of (below_on (below1 w2 _) hb3) H2.out.2 (lt_of H2.out.2)) (And.intro hck hco)))
       clear hb3 hcb hck hco hcv))
  have H5 := hid (kfin H3.out H4.out)
  obtain ⟨p0, p1, p2, -⟩ := vfacts H5.out.1.b1
  obtain ⟨q0, q1, q2, -⟩ := vfacts H5.out.2.1
  have g0 : w4.cell? ⟨g2, 16, none⟩ = some (.int .u8 16) := by rw [cell_of_row w4 _ _ _ _ _ H5.out.2.2.1]; rfl
  clear H0 H1 H2 H3 H4 HC HN HE HD
  go_wp2_with (first
    | (go_at_call 10
       refine (same_any put2 2 _ kCode (mkStr [112, 117, 116, 50]) 2 _ kCode _ H5.out.1.code H5.out.2.2.2 (by decide)).mono ?_
       rintro e w5 ⟨rfl, hb5⟩
       rw [show sameB put2 2 kCode (mkStr [112, 117, 116, 50]) 2 kCode = true by rw [show mkStr [112, 117, 116, 50] = put2 from rfl]; simp [sameB]]
       have H6 := hid (below_on H5.out.1.hb hb5)
       clear hb5))
  go_ret
  exact ⟨rfl, H6.out⟩

end Go.Proofs.Ytljfmbjibjoiiab
